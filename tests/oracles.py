"""Slow, plain versions of what the document defines, to compare the program with."""

from functools import lru_cache
from itertools import product


def board_corners(board):
    width, height = board
    return sorted(product(range(width + 1), range(height + 1)))


def paths_of(board):
    """All paths of the board in normal form, found by walking in the four pairs of directions."""
    found = set()
    for start in board_corners(board):
        for east, north in ((1, 1), (-1, -1), (1, -1), (-1, 1)):
            rows = [(start,)]
            while rows:
                row = rows.pop()
                found.add(min(row, row[::-1]) if len(row) > 1 else row)
                x, y = row[-1]
                for corner in ((x + east, y), (x, y + north)):
                    if 0 <= corner[0] <= board[0] and 0 <= corner[1] <= board[1]:
                        rows.append(row + (corner,))
    return sorted(found)


def certificates(path, other):
    """All tuples (a, c, b) that fulfil the definition of a conflict."""
    found = []
    for a, c, b in product(path, path, path):
        if a in other and b in other and c not in other:
            at = path.index(c)
            if min(path.index(a), path.index(b)) < at < max(path.index(a), path.index(b)):
                found.append((a, c, b))
    return found


@lru_cache(maxsize=None)
def in_conflict(path, other):
    return len(certificates(path, other)) > 0


def pairs_of_half(board, half):
    corners = board_corners(board)
    if half == "rising":
        return [(p, q) for p in corners for q in corners if p[0] < q[0] and p[1] < q[1]]
    return [(p, q) for p in corners for q in corners if p[0] < q[0] and p[1] > q[1]]


def letters_of_half(half):
    return "EN" if half == "rising" else "ES"


def steps_of(pair):
    p, q = pair
    return abs(p[0] - q[0]) + abs(p[1] - q[1])


def straight(p, q):
    row = [p]
    while row[-1] != q:
        x, y = row[-1]
        row.append((x + (q[0] > x) - (q[0] < x), y + (q[1] > y) - (q[1] < y)))
    return tuple(row)


def table_path(board, half, letters, p, q):
    """The path that a table gives for p and q, walked letter by letter."""
    if p[0] == q[0] or p[1] == q[1]:
        return straight(p, q)
    letter = letters[pairs_of_half(board, half).index((p, q))]
    step = {"E": (1, 0), "N": (0, 1), "S": (0, -1)}[letter]
    return (p,) + table_path(board, half, letters, (p[0] + step[0], p[1] + step[1]), q)


def broken_pair(board, half, letters):
    pairs = sorted(pairs_of_half(board, half), key=lambda pair: (steps_of(pair), pair))
    for p, q in pairs:
        path = table_path(board, half, letters, p, q)
        if path[:-1] != table_path(board, half, letters, p, path[-2]):
            return (p, q)
    return None


@lru_cache(maxsize=None)
def _consistent_tables(board, half):
    length = len(pairs_of_half(board, half))
    strings = ["".join(letters) for letters in product(letters_of_half(half), repeat=length)]
    return tuple(letters for letters in strings if broken_pair(board, half, letters) is None)


def consistent_tables(board, half):
    """All consistent tables of a small board, ascending, found by trying every string."""
    return list(_consistent_tables(board, half))


def conflict_free_families(board, half):
    """The tables of all families of one path for each pair of which no two conflict, ascending."""
    pairs = pairs_of_half(board, half)
    between = {pair: [] for pair in pairs}
    for path in paths_of(board):
        if (path[0], path[-1]) in between:
            between[(path[0], path[-1])].append(path)
    families = [()]
    for pair in sorted(pairs, key=steps_of):
        families = [
            family + (path,)
            for family in families for path in between[pair]
            if not any(in_conflict(path, other) for other in family)
        ]
    tables = []
    for family in families:
        lines = {(path[0], path[-1]): path for path in family}
        letters = letters_of_half(half)
        tables.append("".join([letters[lines[p, q][1][0] == p[0]] for p, q in pairs]))
    return sorted(tables)


def filled(board, strokes, choices=(), prefer=None):
    """Point 26 word by word: the lines by pair, and the free pairs with the numbers taken."""
    lines, free, numbers = {}, [], list(choices)

    def line(p, q):
        return straight(p, q) if p[0] == q[0] or p[1] == q[1] else lines[p, q]

    for half in ("rising", "falling"):
        pairs = sorted(pairs_of_half(board, half), key=lambda pair: (steps_of(pair), pair))
        for p, q in pairs:
            through = [stroke for stroke in strokes if p in stroke and q in stroke]
            if through:
                stroke = through[0]
                lines[p, q] = stroke[stroke.index(p):stroke.index(q) + 1]
                continue
            east = (p,) + line((p[0] + 1, p[1]), q)
            other = (p,) + line((p[0], p[1] + (1 if half == "rising" else -1)), q)
            admissible = [c for c in (east, other) if c[:-1] == line(p, c[-2])]
            assert admissible
            chosen = admissible[0]
            if len(admissible) == 2:
                if numbers:
                    number = numbers.pop(0)
                elif prefer is None:
                    number = 0
                else:
                    number = (east, other).index(
                        [c for c in (east, other) if c[1] == prefer.line(p, q)[1]][0]
                    )
                free.append(((p, q), number))
                chosen = admissible[number]
            lines[p, q] = chosen
    return lines, free


def tables_of(board, lines):
    """The two tables of the lines."""
    return tuple(
        "".join([
            letters_of_half(half)[lines[p, q][1][0] == p[0]] for p, q in pairs_of_half(board, half)
        ])
        for half in ("rising", "falling")
    )


def letters_of(path):
    """The directions of the steps of a path in normal form."""
    names = {(1, 0): "E", (0, 1): "N", (0, -1): "S"}
    return "".join([names[b[0] - a[0], b[1] - a[1]] for a, b in zip(path, path[1:])])


@lru_cache(maxsize=None)
def _paths_by_ends(board):
    found = {}
    for path in paths_of(board):
        found.setdefault((path[0], path[-1]), []).append(path)
    return found


def paths_with_ends(board, p, q):
    """All paths of the board between two corners, sorted by letters."""
    return sorted(_paths_by_ends(board)[min(p, q), max(p, q)], key=letters_of)


def kind_of(path):
    letters = letters_of(path)
    if "E" in letters and "N" in letters:
        return "rising"
    if "E" in letters and "S" in letters:
        return "falling"
    return "straight" if letters else "point"


def slot_number(board, half, corner):
    """The slot of a step east or steep from the corner."""
    return corner[0] + (corner[1] if half == "rising" else board[1] - corner[1])


def said_by(board, half, path):
    """All (s, t) such that the path's step in slot s is steep and that in slot t is flat."""
    if kind_of(path) != half:
        return set()
    steps = {
        slot_number(board, half, corner): letter
        for corner, letter in zip(path, letters_of(path))
    }
    return {(s, t) for s in steps for t in steps if steps[s] != "E" and steps[t] == "E"}


def rings_of(board, half, paths):
    """All tuples (i, j, s, t) that are a ring."""
    said = [said_by(board, half, path) for path in paths]
    return {
        (i, j, s, t)
        for i, one in enumerate(said) for j, other in enumerate(said)
        for s, t in one if (t, s) in other
    }


def ranked_path(board, half, ranking, p, q):
    """The path from p to q whose steep steps lie in the slots with the highest ranks."""
    first, steps = slot_number(board, half, p), steps_of((p, q))
    slots = list(range(first, first + steps))
    steep = sorted(slots, key=lambda slot: -ranking[slot])[:abs(p[1] - q[1])]
    row = [p]
    for slot in slots:
        x, y = row[-1]
        row.append((x, y + (1 if half == "rising" else -1)) if slot in steep else (x + 1, y))
    return tuple(row)


def fits_ranking(board, half, ranking, path):
    """True if the path, where it is one of the half, is a line of the ranking's plane."""
    return kind_of(path) != half or path == ranked_path(board, half, ranking, path[0], path[-1])


def board_cells(board):
    return sorted(product(range(board[0]), range(board[1])))


def walk_steps(plane, chain):
    """The directed unit steps along the sides of a chain."""
    steps = []
    for at, corner in enumerate(chain):
        line = plane.line(corner, chain[(at + 1) % len(chain)])
        steps += [(line[k], line[k + 1]) for k in range(len(line) - 1)]
    return steps


def winding_number(steps, cell):
    """Point 47 word by word: the steps north less the steps south, east of the cell."""
    x, y = cell
    east = [(a, b) for a, b in steps if a[0] == b[0] and a[0] > x]
    north = [step for step in east if step[0][1] == y and step[1][1] == y + 1]
    south = [step for step in east if step[0][1] == y + 1 and step[1][1] == y]
    return len(north) - len(south)


def winding_entries(board, steps):
    """The tuples (cell, number) of the winding numbers that are not 0, ascending."""
    numbers = [(cell, winding_number(steps, cell)) for cell in board_cells(board)]
    return [entry for entry in numbers if entry[1] != 0]


def side_groups(cells):
    """The groups of cells that are connected by sides, as sorted lists in ascending order."""
    groups = [{cell} for cell in cells]
    for one, other in product(cells, cells):
        if abs(one[0] - other[0]) + abs(one[1] - other[1]) == 1:
            first = [group for group in groups if one in group][0]
            second = [group for group in groups if other in group][0]
            if first is not second:
                first |= second
                groups.remove(second)
    return sorted(sorted(group) for group in groups)


def border_steps(cells):
    """The directed steps with a cell of the set on the left and none on the right."""
    found = set()
    for x, y in cells:
        corners = [(x, y), (x + 1, y), (x + 1, y + 1), (x, y + 1)]
        beyond = [(x, y - 1), (x + 1, y), (x, y + 1), (x - 1, y)]
        for at in range(4):
            if beyond[at] not in cells:
                found.add((corners[at], corners[(at + 1) % 4]))
    return found


def closed_steps(loop):
    """The steps of a loop, that from the last corner to the first one included."""
    return [(corner, loop[(at + 1) % len(loop)]) for at, corner in enumerate(loop)]


def closed_over(plane, corners):
    """The least closed set with the corners, found by adding whole lines until nothing changes."""
    found = set(corners)
    while True:
        more = found | {c for a in found for b in found for c in plane.line(a, b)}
        if more == found:
            return sorted(found)
        found = more


def derives(plane, corners, entries):
    """Point 70 word by word: True if the entries are a derivation from the corners."""
    for at, (c, a, b) in enumerate(entries):
        earlier = list(corners) + [entry[0] for entry in entries[:at]]
        if a not in earlier or b not in earlier or c not in plane.line(a, b):
            return False
    return True


def least_apart(sets):
    """The least indexes i <= j <= k of three sets that share nothing, or None."""
    count = range(len(sets))
    triples = [(i, j, k) for i in count for j in count for k in count if i <= j <= k]
    for i, j, k in sorted(triples):
        if not set(sets[i]) & set(sets[j]) & set(sets[k]):
            return (i, j, k)
    return None


def touching_groups(items, near):
    """The groups of items that rows of near ones connect, as sorted lists in ascending order."""
    left, groups = set(items), []
    while left:
        group = {min(left)}
        while True:
            more = {one for one in left for other in group if near(one, other)} | group
            if more == group:
                break
            group = more
        left -= group
        groups.append(sorted(group))
    return sorted(groups)


def sees(plane, room, z, w):
    """True if every corner of the line of z and w is in the room."""
    return set(plane.line(z, w)) <= set(room)


def holes_of(board, room):
    """Point 75 word by word: the groups of missing corners without (-1, -1)."""
    around = product(range(-1, board[0] + 2), range(-1, board[1] + 2))
    missing = [corner for corner in around if corner not in room]
    groups = touching_groups(
        missing, lambda a, b: abs(a[0] - b[0]) <= 1 and abs(a[1] - b[1]) <= 1
    )
    return [group for group in groups if (-1, -1) not in group]


def pieces_of(room):
    """The groups of corners of the room that unit steps connect."""
    return touching_groups(room, lambda a, b: abs(a[0] - b[0]) + abs(a[1] - b[1]) == 1)
