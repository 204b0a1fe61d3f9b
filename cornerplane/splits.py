"""Splits: four corners in two groups whose closures share a corner."""

from cornerplane.closures import is_derivation
from cornerplane.conflicts import common_corners
from cornerplane.windings import sides_of

# The indexes of four corners in two pairs.
PAIRS = (((0, 1), (2, 3)), ((0, 2), (1, 3)), ((0, 3), (1, 2)))

# The indexes of four corners, one and three.
SINGLES = ((0, (1, 2, 3)), (1, (0, 2, 3)), (2, (0, 1, 3)), (3, (0, 1, 2)))


def split_four(plane, four):
    """A tuple (first, second, corner, first_steps, second_steps) for two groups of four corners."""
    splits = _pair_splits(plane, four)
    if len(splits) == 0:
        # Where no two such lines meet, one corner lies in the triangle of the others.
        splits = _single_splits(plane, four)
    return splits[0]


def _pair_splits(plane, four):
    """The splits into two lines that have a corner in common."""
    splits = []
    for first, second in PAIRS:
        a, b = [four[index] for index in first]
        c, d = [four[index] for index in second]
        shared = common_corners(plane.line(a, b), plane.line(c, d))
        if len(shared) > 0:
            splits.append((first, second, shared[0], [(shared[0], a, b)], [(shared[0], c, d)]))
    return splits


def _single_splits(plane, four):
    """The splits into a corner and three others from which it is derived."""
    splits = []
    for index, others in SINGLES:
        corner = four[index]
        steps = _steps_to(plane, [four[other] for other in others], corner)
        if steps is not None and index == 0:
            splits.append(((0,), others, corner, [], steps))
        elif steps is not None:
            splits.append((others, (index,), corner, steps, []))
    return splits


def _steps_to(plane, three, corner):
    """A derivation of the corner from three others, or None if it is not between their sides."""
    x, y = corner
    # A column is a line: so a corner between two sides lies on the line of what is on them.
    north = _first_on_side(plane, three, [(x, at) for at in range(y, plane.board[1] + 1)])
    south = _first_on_side(plane, three, [(x, at) for at in range(y, -1, -1)])
    if north is None or south is None:
        return None
    return [north, south, (corner, north[0], south[0])]


def _first_on_side(plane, three, row):
    """The tuple (c, a, b) for the first c of the row that lies on a side (a, b), or None."""
    for c in row:
        for a, b in sides_of(three):
            if c in plane.line(a, b):
                return (c, a, b)
    return None


def is_split(plane, four, certificate):
    """True if the certificate is two groups with a corner that is derived from each of them."""
    first, second, corner, first_steps, second_steps = certificate
    if not _are_groups(first, second):
        return False
    return (
        _derives(plane, [four[index] for index in first], first_steps, corner)
        and _derives(plane, [four[index] for index in second], second_steps, corner)
    )


def _are_groups(first, second):
    """True if both groups ascend, are not empty, have each index once, and 0 is in the first."""
    if 0 not in first or len(second) == 0:
        return False
    if list(first) != sorted(first) or list(second) != sorted(second):
        return False
    return sorted([*first, *second]) == [0, 1, 2, 3]


def _derives(plane, corners, entries, corner):
    """True if the entries are a derivation from the corners, and the corner is among both."""
    if not is_derivation(plane, corners, entries):
        return False
    return corner in corners or corner in [entry[0] for entry in entries]
