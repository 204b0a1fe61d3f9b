"""Outlines: the closed loops of steps around a region, and the region of closed loops."""

from cornerplane.errors import OpenLoop
from cornerplane.grid import direction
from cornerplane.regions import region_of_steps
from cornerplane.windings import sides_of


def outline(region):
    """The loops with the region on their left, in ascending order of their first corners."""
    ways = {}
    for a, b in _border_steps(region):
        ways.setdefault(a, []).append(b)
    loops = []
    for start in sorted(ways):
        # The least corner that is left is the least one of a loop, which passes it only once.
        if len(ways[start]) > 0:
            loops.append(_take_loop(ways, start))
    return loops


def _border_steps(region):
    """The steps (a, b) with a cell of the region on their left and none on their right."""
    steps = []
    for x, y in region:
        for a, b, right in (
            ((x, y), (x + 1, y), (x, y - 1)),
            ((x + 1, y), (x + 1, y + 1), (x + 1, y)),
            ((x + 1, y + 1), (x, y + 1), (x, y + 1)),
            ((x, y + 1), (x, y), (x - 1, y)),
        ):
            if right not in region:
                steps.append((a, b))
    return steps


def _take_loop(ways, start):
    """Take the loop that begins with its least corner out of the ways that are left."""
    loop = [start]
    corner = ways[start].pop()
    while corner != start:
        following = _leftmost(ways[corner], loop[-1], corner)
        ways[corner].remove(following)
        loop.append(corner)
        corner = following
    return loop


def _leftmost(ends, before, corner):
    """The end to the left of the way from `before` to `corner`, or the only one."""
    east, north = corner[0] - before[0], corner[1] - before[1]
    left = (corner[0] - north, corner[1] + east)
    if left in ends:
        return left
    return ends[0]


def region_of_loops(loops):
    """The region of the cells around which the loops pass an odd number of times."""
    for index, loop in enumerate(loops):
        if not _is_loop(loop):
            raise OpenLoop(index)
    return region_of_steps([step for loop in loops for step in sides_of(loop)])


def _is_loop(corners):
    """True if a step leads from each corner to the next one and from the last to the first."""
    if len(corners) < 2:
        return False
    return all([direction(a, b) is not None for a, b in sides_of(corners)])
