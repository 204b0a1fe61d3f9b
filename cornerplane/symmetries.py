"""The mirrored, the turned and the swapped plane."""

from cornerplane.grid import direction, falling_pairs, rising_pairs
from cornerplane.planes import Plane


def mirror_plane(plane):
    """The plane in which (x, y) has gone to (x, height - y)."""
    height = plane.board[1]
    return _moved_plane(plane, plane.board, lambda corner: (corner[0], height - corner[1]))


def turn_plane(plane):
    """The plane in which (x, y) has gone to (width - x, height - y)."""
    width, height = plane.board
    return _moved_plane(plane, plane.board, lambda corner: (width - corner[0], height - corner[1]))


def swap_plane(plane):
    """The plane of the swapped board in which (x, y) has gone to (y, x)."""
    width, height = plane.board
    return _moved_plane(plane, (height, width), lambda corner: (corner[1], corner[0]))


def _moved_plane(plane, board, move):
    """The plane of `board` that a move makes of a plane; the same move leads back again."""
    rising = _moved_table(plane, rising_pairs(board), move)
    falling = _moved_table(plane, falling_pairs(board), move)
    return Plane(board, rising, falling)


def _moved_table(plane, pairs, move):
    letters = []
    for p, q in pairs:
        second = move(plane.step_from(move(p), move(q)))
        letters.append(direction(p, second))
    return "".join(letters)
