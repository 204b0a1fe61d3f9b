"""Closed sets: those that have every corner of the lines between their corners."""

from cornerplane.triangles import Triangle


def open_pair(plane, corners):
    """The least pair a < b whose line leaves the set, and its first corner outside; or None."""
    inside = set(corners)
    known = sorted(inside)
    for at, a in enumerate(known):
        for b in known[at + 1:]:
            for c in plane.line(a, b):
                if c not in inside:
                    return (a, b, c)
    return None


def closure(plane, corners):
    """The corners of the least closed set that has the given ones, ascending."""
    derived = [c for c, a, b in derivation(plane, corners)]
    return sorted(set([*corners, *derived]))


def derivation(plane, corners):
    """The tuples (c, a, b) of the corners that the closure adds, with c on the line of a and b."""
    entries = []
    joined = []
    waiting = sorted(set(corners))
    while len(waiting) > 0:
        corner = waiting[0]
        found = _new_entries(plane, corner, joined, joined + waiting)
        entries = entries + found
        joined = joined + [corner]
        waiting = waiting[1:] + [c for c, a, b in found]
    return entries


def _new_entries(plane, corner, others, known):
    """The tuples (c, corner, other) of the corners c on these lines that are not known yet."""
    reached = set(known)
    entries = []
    for other in others:
        for c in plane.line(corner, other):
            if c not in reached:
                reached.add(c)
                entries.append((c, corner, other))
    return entries


def is_derivation(plane, corners, entries):
    """True if each c lies on the line of an a and a b that are given or derived before."""
    known = set(corners)
    for c, a, b in entries:
        if a not in known or b not in known or c not in plane.line(a, b):
            return False
        known.add(c)
    return True


def find_triple(plane, corners, corner):
    """The least tuple (a, b, c) of the corners, a <= b <= c, whose triangle has the corner."""
    known = sorted(set(corners))
    for i, a in enumerate(known):
        for j in range(i, len(known)):
            for c in known[j:]:
                if corner in Triangle(plane, a, known[j], c):
                    return (a, known[j], c)
    return None
