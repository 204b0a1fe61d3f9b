"""Tables of one half: the paths that they give, and whether these fit together."""

from cornerplane.grid import after_step, half_pairs
from cornerplane.lines import front_is_line, line_between, pairs_by_steps


def table_lines(board, half, letters):
    """The path that the table gives for each pair, as a dict; pairs with fewer steps come first."""
    first_steps = dict(zip(half_pairs(board, half), letters))
    lines = {}
    for p, q in pairs_by_steps(board, half):
        # The path goes on from its second corner as the path of that corner does.
        second = after_step(p, first_steps[(p, q)])
        lines[(p, q)] = (p, *line_between(lines, second, q))
    return lines


def first_broken_pair(lines):
    """The first pair, in the order of `table_lines`, whose path does not fit, or None."""
    for pair in lines:
        if not front_is_line(lines, lines[pair]):
            return pair
    return None


def find_broken_pair(board, half, letters):
    """The pair with the fewest steps, and the least of these, that breaks the table, or None."""
    return first_broken_pair(table_lines(board, half, letters))
