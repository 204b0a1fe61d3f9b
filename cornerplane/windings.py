"""Closed walks along chains of corners, their steps, and how often they wind around each cell."""

from cornerplane.errors import OpenSteps


def sides_of(chain):
    """The tuples (a, b) of each corner and the next one; after the last one comes the first."""
    return list(zip(chain, chain[1:] + chain[:1]))


def closed_walk(plane, chain):
    """The corners along the sides of the chain, without the return to the first one."""
    walk = []
    for a, b in sides_of(chain):
        walk.extend(plane.line(a, b)[:-1])
    if len(walk) == 0:
        # All corners are equal, and no side has a step.
        return [chain[0]]
    return walk


def windings(plane, chain):
    """The tuples (cell, number) of the cells around which the chain winds, ascending."""
    return total_windings(plane, [chain])


def signed_area(plane, chain):
    """The sum of the winding numbers of all cells."""
    return sum([number for cell, number in windings(plane, chain)])


def net_steps(plane, chains):
    """The tuples ((a, b), number) of the steps from a to b less those back, ascending."""
    numbers = {}
    for chain in chains:
        for a, b in unit_steps(plane, sides_of(chain)):
            if a < b:
                numbers[(a, b)] = numbers.get((a, b), 0) + 1
            else:
                numbers[(b, a)] = numbers.get((b, a), 0) - 1
    return _entries(numbers)


def unit_steps(plane, sides):
    """The steps (a, b) along the lines of the sides, in order."""
    steps = []
    for a, b in sides:
        line = plane.line(a, b)
        steps.extend(list(zip(line, line[1:])))
    return steps


def _entries(numbers):
    """The tuples (key, number) of a dict without zeros, ascending."""
    return [(key, numbers[key]) for key in sorted(numbers) if numbers[key] != 0]


def total_windings(plane, chains):
    """The tuples (cell, number) of the winding numbers of all chains together, ascending."""
    return windings_of_steps(net_steps(plane, chains))


def windings_of_steps(steps):
    """The tuples (cell, number) of the winding numbers that net steps give, ascending."""
    _refuse_open(steps)
    numbers = {}
    for (a, b), number in steps:
        for cell in cells_west_of(a, b):
            numbers[cell] = numbers.get(cell, 0) + number
    return _entries(numbers)


def cells_west_of(a, b):
    """The cells west of a step north or south, in the row that it crosses; none for other steps."""
    if a[0] != b[0]:
        return []
    row = min(a[1], b[1])
    return [(x, row) for x in range(a[0])]


def _refuse_open(steps):
    """Raise the least corner at which not as many steps arrive as leave."""
    arriving = {}
    for (a, b), number in steps:
        arriving[a] = arriving.get(a, 0) - number
        arriving[b] = arriving.get(b, 0) + number
    open_corners = [corner for corner in sorted(arriving) if arriving[corner] != 0]
    if len(open_corners) > 0:
        raise OpenSteps(open_corners[0])
