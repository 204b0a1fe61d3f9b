"""Deeds: lines of text that tell what to do at a desk."""

from cornerplane.errors import BadText
from cornerplane.paths import corner_of_text, format_corner, format_path, parse_path

# The deeds that name nothing but a name, and those that name nothing but a corner.
NAME_DEEDS = ("drop", "pin", "unpin", "erase")
CORNER_DEEDS = ("wall", "clear")

LETTERS = "abcdefghijklmnopqrstuvwxyz"
DIGITS = "0123456789"
LONGEST_NAME = 12
MOST_CORNERS = 24


def parse_deed(board, line):
    """The deed of a line, as a tuple that begins with its word."""
    word, *parts = line.split(" ")
    if word in NAME_DEEDS and len(parts) == 1:
        return (word, _read_name(parts[0]))
    if word in CORNER_DEEDS and len(parts) == 1:
        return (word, _read_corner(board, parts[0]))
    if word == "place" and len(parts) == 2:
        return (word, _read_name(parts[0]), _read_corner(board, parts[1]))
    if word == "shape" and 2 <= len(parts) <= MOST_CORNERS + 1:
        corners = [_read_corner(board, part) for part in parts[1:]]
        return (word, _read_name(parts[0]), tuple(corners))
    if word == "stroke" and len(parts) >= 2:
        # The text of a path has a blank of its own.
        return (word, _read_name(parts[0]), parse_path(board, " ".join(parts[1:])))
    raise BadText(1)


def _read_name(text):
    """The text, if it is a name."""
    if not 1 <= len(text) <= LONGEST_NAME or text[0] not in LETTERS:
        raise BadText(1)
    if not all([sign in LETTERS or sign in DIGITS for sign in text]):
        raise BadText(1)
    return text


def _read_corner(board, text):
    """The corner of the board that has this text."""
    corner = corner_of_text(board, text)
    if corner is None:
        raise BadText(1)
    return corner


def format_deed(deed):
    """The line of a deed."""
    word, *parts = deed
    if word in CORNER_DEEDS:
        words = [format_corner(parts[0])]
    elif word == "place":
        words = [parts[0], format_corner(parts[1])]
    elif word == "shape":
        words = [parts[0]] + [format_corner(corner) for corner in parts[1]]
    elif word == "stroke":
        words = [parts[0], format_path(parts[1])]
    else:
        words = parts
    return " ".join([word, *words])
