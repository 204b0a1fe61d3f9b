"""Options: which paths two corners can still have as their line beside given strokes."""

from cornerplane.conflicts import find_conflict, is_conflict
from cornerplane.errors import TooFar
from cornerplane.grid import step_count

# The number of all paths grows too fast beyond this many steps.
MOST_STEPS = 10


def blockers(strokes, path):
    """The tuples (index, certificate) of the strokes with which the path conflicts, ascending."""
    found = []
    for index, stroke in enumerate(strokes):
        certificate = find_conflict(path, stroke)
        if certificate is not None:
            found.append((index, certificate))
    return found


def is_possible(strokes, path):
    """True if the path conflicts with none of the strokes."""
    return all(find_conflict(path, stroke) is None for stroke in strokes)


def possible_paths(strokes, p, q):
    """The paths between p and q that conflict with none of the strokes, sorted by letters."""
    return [path for path in _near_paths(p, q) if is_possible(strokes, path)]


def sure_line(strokes, p, q):
    """The only possible path between p and q, or None if there are several."""
    possible = possible_paths(strokes, p, q)
    if len(possible) == 1:
        return possible[0]
    return None


def sure_certificate(strokes, p, q):
    """For each path but the only possible one, a stroke that it conflicts with; or None."""
    line = sure_line(strokes, p, q)
    if line is None:
        return None
    return [(path, *blockers(strokes, path)[0]) for path in _near_paths(p, q) if path != line]


def is_sure_certificate(strokes, path, entries):
    """True if the entries show that the path is the only possible one between its ends."""
    if not is_possible(strokes, path):
        return False
    others = [other for other in paths_between(path[0], path[-1]) if other != path]
    if sorted([entry[0] for entry in entries]) != sorted(others):
        return False
    return all([_shows_conflict(strokes, entry) for entry in entries])


def _shows_conflict(strokes, entry):
    path, index, certificate = entry
    return 0 <= index < len(strokes) and is_conflict(path, strokes[index], certificate)


def _near_paths(p, q):
    """All paths between two corners that are near enough for it."""
    if step_count(p, q) > MOST_STEPS:
        raise TooFar()
    return paths_between(p, q)


def paths_between(p, q):
    """All paths between two corners, sorted by letters."""
    start, end = sorted([p, q])
    paths = [(start,)]
    for _ in range(step_count(start, end)):
        paths = [(*path, corner) for path in paths for corner in _next_corners(path[-1], end)]
    return paths


def _next_corners(corner, end):
    """The corners one step nearer to an end that is not west, the eastern one first."""
    x, y = corner
    found = []
    if x < end[0]:
        found.append((x + 1, y))
    if y < end[1]:
        found.append((x, y + 1))
    if y > end[1]:
        found.append((x, y - 1))
    return found
