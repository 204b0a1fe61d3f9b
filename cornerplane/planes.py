"""Planes: one line for each two corners of a board, such that parts of lines are lines."""

from cornerplane.errors import BadTable, BrokenTable, OffBoard
from cornerplane.grid import falling_pairs, on_board, rising_pairs
from cornerplane.lines import fits_half, in_one_row, straight_row
from cornerplane.paths import path_letters
from cornerplane.tables import first_broken_pair, table_lines


class Plane:
    """The plane of a board that two tables describe, one for each half."""

    def __init__(self, board, rising, falling):
        if not fits_half(board, "rising", rising):
            raise BadTable("rising")
        if not fits_half(board, "falling", falling):
            raise BadTable("falling")
        self.board = board
        self.rising = rising
        self.falling = falling
        self._lines = {}
        for half, letters in (("rising", rising), ("falling", falling)):
            lines = _consistent_lines(board, half, letters)
            for pair in lines:
                self._lines[pair] = lines[pair]

    def line(self, p, q):
        """The list of the corners from p to q."""
        for corner in (p, q):
            if not on_board(self.board, corner):
                raise OffBoard(corner)
        if in_one_row(p, q):
            return list(straight_row(p, q))
        if p < q:
            return list(self._lines[(p, q)])
        return list(self._lines[(q, p)][::-1])

    def step_from(self, p, q):
        """The corner after p on the line from p to q, or None if they are equal."""
        line = self.line(p, q)
        if len(line) == 1:
            return None
        return line[1]

    def has_path(self, path):
        """True if the path is a line of the plane."""
        return list(path) == self.line(path[0], path[-1])


def _consistent_lines(board, half, letters):
    """The lines of a table that is consistent."""
    lines = table_lines(board, half, letters)
    broken = first_broken_pair(lines)
    if broken is not None:
        raise BrokenTable(half, broken[0], broken[1])
    return lines


def last_tables(plane):
    """The directions of the last steps, as one text for the rising and one for the falling pairs."""
    return (
        _last_letters(plane, rising_pairs(plane.board)),
        _last_letters(plane, falling_pairs(plane.board)),
    )


def _last_letters(plane, pairs):
    return "".join([path_letters(plane.line(p, q)[-2:]) for p, q in pairs])


def each_line(plane):
    """Yield the lines of the rising pairs and then of the falling pairs, ascending by pair."""
    for p, q in rising_pairs(plane.board) + falling_pairs(plane.board):
        yield tuple(plane.line(p, q))
