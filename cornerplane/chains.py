"""Chains of loops: the fewest corners whose lines follow a loop."""

from cornerplane.outlines import outline


def line_ends(plane, row):
    """The positions that cut a row of steps into lines, each as far on as possible, from 0 on."""
    ends = [0]
    while ends[-1] < len(row) - 1:
        ends.append(_farthest_end(plane, row, ends[-1]))
    return ends


def _farthest_end(plane, row, start):
    """The last position to which the row follows a line from position `start` on."""
    end = start + 1
    # A part of a line is a line: so no later part can be one, where a shorter one is none.
    while end < len(row) - 1 and _follows_line(plane, row, start, end + 1):
        end += 1
    return end


def _follows_line(plane, row, start, end):
    """True if the part of the row between two positions is a line of the plane."""
    return row[start:end + 1] == plane.line(row[start], row[end])


def _cut_open(loop):
    """The loop as a row, cut at its first corner, which is at both ends."""
    return [*loop, loop[0]]


def least_marks(plane, loop):
    """The least positions that cut the loop into lines of the plane."""
    return line_ends(plane, _cut_open(loop))[:-1]


def is_least_marks(plane, loop, marks):
    """True if these are marks of the loop, and the line from each to the next goes no further."""
    row = _cut_open(loop)
    ends = [*marks, len(loop)]
    if ends[0] != 0 or not all([a < b for a, b in zip(ends, ends[1:])]):
        return False
    if not all([_follows_line(plane, row, a, b) for a, b in zip(ends, ends[1:])]):
        return False
    return not any([_follows_line(plane, row, a, b + 1) for a, b in zip(marks, marks[1:])])


def least_chain(plane, loop):
    """The corners of the loop at its least marks."""
    return [loop[position] for position in least_marks(plane, loop)]


def trace(plane, region):
    """The least chains of the loops around the region."""
    return [least_chain(plane, loop) for loop in outline(region)]
