"""Triangles: three lines, the knees where they part, and what they enclose."""

from cornerplane.conflicts import common_corners
from cornerplane.windings import sides_of, windings


class Triangle:
    """The three lines between three corners of a plane, which may be equal."""

    def __init__(self, plane, p, q, r):
        rim = [plane.line(a, b) for a, b in ((p, q), (q, r), (r, p))]
        inside = windings(plane, [p, q, r])
        self.ends = (p, q, r)
        self.knees = (_knee(plane, p, q, r), _knee(plane, q, r, p), _knee(plane, r, p, q))
        self.meeting = _meeting(rim)
        # The winding number is the same one for all cells inside the core.
        self.sign = inside[0][1] if len(inside) > 0 else 0
        self.cells = tuple([cell for cell, number in inside])
        self.corners = _corners(rim, self.cells)

    @property
    def area(self):
        """The sum of the winding numbers."""
        return self.sign * len(self.cells)

    def __contains__(self, corner):
        return corner in self.corners


def _knee(plane, p, q, r):
    """The last common corner of the lines from p to q and from p to r."""
    return common_corners(plane.line(p, q), plane.line(p, r))[-1]


def _meeting(rim):
    """The corner that lies on all three lines, or None."""
    common = common_corners(common_corners(rim[0], rim[1]), rim[2])
    if len(common) == 0:
        return None
    return common[0]


def _corners(rim, cells):
    """The corners on the lines, and those with all four cells around them inside, ascending."""
    inner = [
        (x, y) for x, y in cells
        if (x - 1, y) in cells and (x, y - 1) in cells and (x - 1, y - 1) in cells
    ]
    return tuple(sorted(set(rim[0] + rim[1] + rim[2] + inner)))


def fan(hub, chain):
    """The triangles (hub, a, b) over the sides of the chain, in its order."""
    return [(hub, a, b) for a, b in sides_of(chain)]
