"""Slow, plain versions of what the document defines, to compare the program with."""

from itertools import product


def board_corners(board):
    width, height = board
    return sorted(product(range(width + 1), range(height + 1)))


def paths_of(board):
    """All paths of the board in normal form, found by walking in the four pairs of directions."""
    found = set()
    for start in board_corners(board):
        for east, north in ((1, 1), (-1, -1), (1, -1), (-1, 1)):
            rows = [(start,)]
            while rows:
                row = rows.pop()
                found.add(min(row, row[::-1]) if len(row) > 1 else row)
                x, y = row[-1]
                for corner in ((x + east, y), (x, y + north)):
                    if 0 <= corner[0] <= board[0] and 0 <= corner[1] <= board[1]:
                        rows.append(row + (corner,))
    return sorted(found)


def certificates(path, other):
    """All tuples (a, c, b) that fulfil the definition of a conflict."""
    found = []
    for a, c, b in product(path, path, path):
        if a in other and b in other and c not in other:
            at = path.index(c)
            if min(path.index(a), path.index(b)) < at < max(path.index(a), path.index(b)):
                found.append((a, c, b))
    return found


def in_conflict(path, other):
    return len(certificates(path, other)) > 0


def pairs_of_half(board, half):
    corners = board_corners(board)
    if half == "rising":
        return [(p, q) for p in corners for q in corners if p[0] < q[0] and p[1] < q[1]]
    return [(p, q) for p in corners for q in corners if p[0] < q[0] and p[1] > q[1]]


def letters_of_half(half):
    return "EN" if half == "rising" else "ES"


def steps_of(pair):
    p, q = pair
    return abs(p[0] - q[0]) + abs(p[1] - q[1])


def straight(p, q):
    row = [p]
    while row[-1] != q:
        x, y = row[-1]
        row.append((x + (q[0] > x) - (q[0] < x), y + (q[1] > y) - (q[1] < y)))
    return tuple(row)


def table_path(board, half, letters, p, q):
    """The path that a table gives for p and q, walked letter by letter."""
    if p[0] == q[0] or p[1] == q[1]:
        return straight(p, q)
    letter = letters[pairs_of_half(board, half).index((p, q))]
    step = {"E": (1, 0), "N": (0, 1), "S": (0, -1)}[letter]
    return (p,) + table_path(board, half, letters, (p[0] + step[0], p[1] + step[1]), q)


def broken_pair(board, half, letters):
    pairs = sorted(pairs_of_half(board, half), key=lambda pair: (steps_of(pair), pair))
    for p, q in pairs:
        path = table_path(board, half, letters, p, q)
        if path[:-1] != table_path(board, half, letters, p, path[-2]):
            return (p, q)
    return None


def consistent_tables(board, half):
    """All consistent tables of a small board, ascending, found by trying every string."""
    length = len(pairs_of_half(board, half))
    strings = ["".join(letters) for letters in product(letters_of_half(half), repeat=length)]
    return [letters for letters in strings if broken_pair(board, half, letters) is None]
