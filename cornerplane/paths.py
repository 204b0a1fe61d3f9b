"""Paths: their normal form, kinds, parts and texts."""

from cornerplane.errors import BadText, NotAPath, NotOnPath, OffBoard
from cornerplane.grid import STEPS, after_step, corners_of, direction, on_board


def normal_path(board, corners):
    """The normal form of the path that the row of corners is."""
    if len(corners) == 0:
        raise NotAPath(0)
    directions = []
    for index, corner in enumerate(corners):
        if not on_board(board, corner):
            raise OffBoard(corner)
        if index > 0:
            directions.append(direction(corners[index - 1], corner))
        if not _fit_together(directions):
            raise NotAPath(index)
    return from_lesser_end(tuple(corners))


def _fit_together(directions):
    """True if all are directions, and no two of them are opposite to each other."""
    if None in directions:
        return False
    turns_east_west = "E" in directions and "W" in directions
    turns_north_south = "N" in directions and "S" in directions
    return not turns_east_west and not turns_north_south


def from_lesser_end(row):
    """The tuple of a path's corners in the direction of its normal form."""
    if row[-1] < row[0]:
        return row[::-1]
    return row


def path_kind(path):
    """The string point, straight, rising or falling."""
    first, last = path[0], path[-1]
    if first == last:
        return "point"
    if first[0] == last[0] or first[1] == last[1]:
        return "straight"
    if first[1] < last[1]:
        return "rising"
    return "falling"


def path_part(path, a, b):
    """The part of the path between two of its corners, in normal form."""
    for corner in (a, b):
        if corner not in path:
            raise NotOnPath(corner)
    start, end = sorted([path.index(a), path.index(b)])
    # The part of a falling path can be a column, whose lesser end is the later one.
    return from_lesser_end(path[start:end + 1])


def path_letters(path):
    """The directions of the steps of the path, as a string."""
    return "".join([direction(a, b) for a, b in zip(path, path[1:])])


def format_corner(corner):
    """The text of a corner."""
    return f"{corner[0]},{corner[1]}"


def format_path(path):
    """The text of a path."""
    if len(path) == 1:
        return format_corner(path[0])
    return f"{format_corner(path[0])} {path_letters(path)}"


def parse_path(board, text):
    """The path of the board that has this text."""
    start, _, letters = text.partition(" ")
    corner = corner_of_text(board, start)
    if corner is None or not all(letter in STEPS for letter in letters):
        raise BadText(1)
    row = [corner]
    for letter in letters:
        row.append(after_step(row[-1], letter))
    try:
        path = normal_path(board, row)
    except (NotAPath, OffBoard):
        raise BadText(1) from None
    # A second blank, or a start at the greater end, gives a path of another text.
    if format_path(path) != text:
        raise BadText(1)
    return path


def corner_of_text(board, text):
    """The corner of the board that has this text, or None."""
    # Comparing texts instead of reading numbers refuses leading zeros and endless digits.
    for corner in corners_of(board):
        if format_corner(corner) == text:
            return corner
    return None
