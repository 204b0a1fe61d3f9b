"""Counting: all tables and planes of a small board in which given strokes are lines."""

from cornerplane.errors import TooLarge
from cornerplane.filling import admissible_lines, stroke_lines
from cornerplane.lines import first_letters, pairs_by_steps
from cornerplane.paths import path_kind
from cornerplane.strokes import compatible

# The number of all tables grows too fast beyond this many cells.
MOST_CELLS = 6


def half_tables(board, half, strokes):
    """All consistent tables of the half in which its strokes are lines, ascending."""
    if board[0] * board[1] > MOST_CELLS:
        raise TooLarge()
    own = [stroke for stroke in strokes if path_kind(stroke) == half]
    if not compatible(own):
        return []
    forced = stroke_lines(own)
    fillings = [forced]
    for p, q in pairs_by_steps(board, half):
        if (p, q) not in forced:
            fillings = _with_next_pair(fillings, half, p, q)
    return sorted([first_letters(board, half, lines) for lines in fillings])


def _with_next_pair(fillings, half, p, q):
    """Each of the fillings with each line that (p, q) can get in it."""
    found = []
    for lines in fillings:
        for line in admissible_lines(lines, half, p, q):
            longer = {pair: lines[pair] for pair in lines}
            longer[(p, q)] = line
            found.append(longer)
    return found


def count_planes(board, strokes):
    """The number of planes of the board in which the strokes are lines."""
    rising = half_tables(board, "rising", strokes)
    falling = half_tables(board, "falling", strokes)
    return len(rising) * len(falling)
