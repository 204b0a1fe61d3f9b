"""Changes: a plane that is amended so that given strokes become lines."""

from cornerplane.filling import fill
from cornerplane.options import is_possible
from cornerplane.planes import each_line
from cornerplane.strokes import keep_in_order


def amend(plane, strokes):
    """A plane with the strokes as lines that keeps each line which conflicts with none of them."""
    return fill(plane.board, strokes, prefer=plane)


def conflicting_pairs(plane, strokes):
    """The pairs whose lines conflict with a stroke: rising, then falling, each ascending."""
    lines = [line for line in each_line(plane) if not is_possible(strokes, line)]
    return [(line[0], line[-1]) for line in lines]


def changed_pairs(before, after):
    """The pairs whose lines differ in two planes: rising, then falling, each ascending."""
    lines = [line for line in each_line(before) if not after.has_path(line)]
    return [(line[0], line[-1]) for line in lines]


def amend_in_order(plane, strokes):
    """The plane after each kept stroke has amended it, and the two lists of `keep_in_order`."""
    kept, refused = keep_in_order(strokes)
    amended = plane
    for index in kept:
        amended = amend(amended, [strokes[index]])
    return (amended, kept, refused)
