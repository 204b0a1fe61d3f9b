"""Lines of pairs of corners, kept in a dict by pair, while a half of a plane is built or checked."""

from cornerplane.grid import half_pairs, step_count
from cornerplane.paths import path_letters

# The letters of a half: the first one is east, the second one the other direction.
HALF_LETTERS = {"rising": "EN", "falling": "ES"}


def fits_half(board, half, letters):
    """True if the text has exactly one letter of the half for each of its pairs."""
    if len(letters) != len(half_pairs(board, half)):
        return False
    return all(letter in HALF_LETTERS[half] for letter in letters)


def pairs_by_steps(board, half):
    """The pairs of the half, those with fewer steps first, and else ascending."""
    return sorted(half_pairs(board, half), key=lambda pair: (step_count(pair[0], pair[1]), pair))


def in_one_row(p, q):
    """True if the corners lie in one row or in one column."""
    return p[0] == q[0] or p[1] == q[1]


def straight_row(p, q):
    """The corners from p to q, which lie in one row or column."""
    east, north = _sign(q[0] - p[0]), _sign(q[1] - p[1])
    return tuple([(p[0] + k * east, p[1] + k * north) for k in range(step_count(p, q) + 1)])


def _sign(number):
    if number > 0:
        return 1
    if number < 0:
        return -1
    return 0


def line_between(lines, p, q):
    """The corners from p to q, where (p, q) is a pair of `lines` if they are not in one row."""
    if in_one_row(p, q):
        return straight_row(p, q)
    return lines[(p, q)]


def front_is_line(lines, path):
    """True if the path without its last corner is the line of its own two ends."""
    front = path[:-1]
    return line_between(lines, front[0], front[-1]) == front


def first_letters(board, half, lines):
    """The table of the half: the letter of the first step of each line."""
    return "".join([path_letters(lines[pair][:2]) for pair in half_pairs(board, half)])
