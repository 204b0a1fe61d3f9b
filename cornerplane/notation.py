"""The text of a plane."""

from cornerplane.errors import BadText
from cornerplane.lines import fits_half
from cornerplane.planes import Plane

# The sides that a board can have, as the text of a plane writes them.
SIDES = ("0", "1", "2", "3", "4", "5", "6", "7", "8")


def format_plane(plane):
    """The text of a plane."""
    width, height = plane.board
    return f"plane {width} {height}\n{plane.rising}\n{plane.falling}\n"


def parse_plane(text):
    """The plane of a text."""
    parts = text.split("\n")
    # What stands behind the last newline is a line that is not ended, so it is none of the rows.
    rows, rest = parts[:-1], parts[-1]
    board = board_of_row("plane", rows[0]) if len(rows) > 0 else None
    if board is None:
        raise BadText(1)
    if len(rows) < 2 or not fits_half(board, "rising", rows[1]):
        raise BadText(2)
    if len(rows) < 3 or not fits_half(board, "falling", rows[2]):
        raise BadText(3)
    if len(rows) > 3 or rest != "":
        raise BadText(4)
    return Plane(board, rows[1], rows[2])


def board_of_row(word, row):
    """The board of a line that has this word and the two sides of a board, or None."""
    words = row.split(" ")
    if len(words) != 3 or words[0] != word:
        return None
    if words[1] not in SIDES or words[2] not in SIDES:
        return None
    return (int(words[1]), int(words[2]))
