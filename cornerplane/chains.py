"""Chains of loops: the fewest corners whose lines follow a loop."""

from cornerplane.outlines import outline


def least_marks(plane, loop):
    """The least positions that cut the loop into lines of the plane."""
    marks = []
    position = 0
    while position < len(loop):
        marks.append(position)
        position = _farthest_end(plane, loop, position)
    return marks


def _farthest_end(plane, loop, start):
    """The last position to which the loop follows a line from position `start` on."""
    end = start + 1
    # A part of a line is a line: so no later part can be one, where a shorter one is none.
    while end < len(loop) and _follows_line(plane, loop, start, end + 1):
        end += 1
    return end


def _follows_line(plane, loop, start, end):
    """True if the part of the loop between two positions is a line of the plane."""
    row = [*loop, loop[0]]
    return row[start:end + 1] == plane.line(row[start], row[end])


def is_least_marks(plane, loop, marks):
    """True if these are marks of the loop, and the line from each to the next goes no further."""
    ends = [*marks, len(loop)]
    if ends[0] != 0 or not all([a < b for a, b in zip(ends, ends[1:])]):
        return False
    if not all([_follows_line(plane, loop, a, b) for a, b in zip(ends, ends[1:])]):
        return False
    return not any([_follows_line(plane, loop, a, b + 1) for a, b in zip(marks, marks[1:])])


def least_chain(plane, loop):
    """The corners of the loop at its least marks."""
    return [loop[position] for position in least_marks(plane, loop)]


def trace(plane, region):
    """The least chains of the loops around the region."""
    return [least_chain(plane, loop) for loop in outline(region)]
