"""Planes and strokes to try the program with. The same ones come in every run."""

import random

from cornerplane.filling import fill
from cornerplane.landmaps import LandMap
from cornerplane.rankings import ranked_plane, ruler_ranking
from cornerplane.strokes import keep_in_order
from tests.oracles import paths_of


def some_plane(board, seed):
    """A plane of the board whose free pairs are decided by chance."""
    chance = random.Random(seed)
    return fill(board, [], choices=[chance.randrange(2) for _ in range(2600)])


def some_strokes(board, seed, count):
    """Compatible strokes of the board, at most `count`."""
    chance = random.Random(seed)
    strokes = chance.choices(paths_of(board), k=count)
    kept, _ = keep_in_order(strokes)
    return [strokes[index] for index in kept]


def long_stroke(board, chance):
    """A rising or falling path from side to side of the board."""
    width, height = board
    rising = chance.random() < 0.5
    letters = ["E"] * width + ["N" if rising else "S"] * height
    chance.shuffle(letters)
    row = [(0, 0 if rising else height)]
    for letter in letters:
        x, y = row[-1]
        row.append({"E": (x + 1, y), "N": (x, y + 1), "S": (x, y - 1)}[letter])
    return tuple(row)


def many_long_strokes(board, seed, count):
    """Compatible strokes among `count` long ones."""
    chance = random.Random(seed)
    strokes = [long_stroke(board, chance) for _ in range(count)]
    kept, _ = keep_in_order(strokes)
    return [strokes[index] for index in kept]


def some_rankings(board, seed):
    """Two rankings of the board by chance."""
    chance = random.Random(seed)
    slots = list(range(board[0] + board[1]))
    return chance.sample(slots, len(slots)), chance.sample(slots, len(slots))


def lines_of(plane, seed, count):
    """Lines of the plane by chance, as paths."""
    chance = random.Random(seed)
    width, height = plane.board
    corners = [(x, y) for x in range(width + 1) for y in range(height + 1)]
    pairs = [sorted(chance.choices(corners, k=2)) for _ in range(count)]
    return [tuple(plane.line(p, q)) for p, q in pairs]


def some_chain(board, seed, count):
    """A chain of the board by chance, in which corners may come again."""
    chance = random.Random(seed)
    return [
        (chance.randrange(board[0] + 1), chance.randrange(board[1] + 1)) for _ in range(count)
    ]


def some_cells(board, seed, share=0.5):
    """Cells of the board by chance."""
    chance = random.Random(seed)
    cells = [(x, y) for x in range(board[0]) for y in range(board[1])]
    return [cell for cell in cells if chance.random() < share]


def some_land(board, seed, share=0.7):
    """A map of the board with faces by chance, not all of them connected."""
    chance = random.Random(seed)
    faces = {}
    for x, y in some_cells(board, seed, share):
        # Neighbours often get the same name.
        name = chance.choice(["abc"[x // 2 % 3], "abc"[y // 2 % 3], "d1", "e"])
        faces.setdefault(name, []).append((x, y))
    return LandMap(board, list(faces.items()))


def shuffled(items, seed):
    """The items in another order, some of them several times."""
    chance = random.Random(seed)
    given = list(items) + [item for item in items if chance.random() < 0.3]
    chance.shuffle(given)
    return given


def some_corners(board, seed, share=0.5):
    """Corners of the board by chance."""
    chance = random.Random(seed)
    width, height = board
    corners = [(x, y) for x in range(width + 1) for y in range(height + 1)]
    return [corner for corner in corners if chance.random() < share]


def planes_of(board):
    """Two planes by chance, which are hardly even, the ruler's and that of two rankings."""
    ruler = ruler_ranking(sum(board))
    return [
        some_plane(board, 1), some_plane(board, 2), ranked_plane(board, ruler, ruler),
        ranked_plane(board, *some_rankings(board, 3)),
    ]
