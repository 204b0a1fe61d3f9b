"""Planes and strokes to try the program with. The same ones come in every run."""

import random
from functools import lru_cache

from cornerplane.filling import fill
from cornerplane.landmaps import LandMap
from cornerplane.rankings import ranked_plane, ruler_ranking
from cornerplane.strokes import keep_in_order
from tests.oracles import holes_of, paths_of


def some_plane(board, seed):
    """A plane of the board whose free pairs are decided by chance."""
    chance = random.Random(seed)
    return fill(board, [], choices=[chance.randrange(2) for _ in range(2600)])


def some_strokes(board, seed, count):
    """Compatible strokes of the board, at most `count`."""
    chance = random.Random(seed)
    strokes = chance.choices(paths_of(board), k=count)
    kept, _ = keep_in_order(strokes)
    return [strokes[index] for index in kept]


def long_stroke(board, chance):
    """A rising or falling path from side to side of the board."""
    width, height = board
    rising = chance.random() < 0.5
    letters = ["E"] * width + ["N" if rising else "S"] * height
    chance.shuffle(letters)
    row = [(0, 0 if rising else height)]
    for letter in letters:
        x, y = row[-1]
        row.append({"E": (x + 1, y), "N": (x, y + 1), "S": (x, y - 1)}[letter])
    return tuple(row)


def many_long_strokes(board, seed, count):
    """Compatible strokes among `count` long ones."""
    chance = random.Random(seed)
    strokes = [long_stroke(board, chance) for _ in range(count)]
    kept, _ = keep_in_order(strokes)
    return [strokes[index] for index in kept]


def some_rankings(board, seed):
    """Two rankings of the board by chance."""
    chance = random.Random(seed)
    slots = list(range(board[0] + board[1]))
    return chance.sample(slots, len(slots)), chance.sample(slots, len(slots))


def lines_of(plane, seed, count):
    """Lines of the plane by chance, as paths."""
    chance = random.Random(seed)
    width, height = plane.board
    corners = [(x, y) for x in range(width + 1) for y in range(height + 1)]
    pairs = [sorted(chance.choices(corners, k=2)) for _ in range(count)]
    return [tuple(plane.line(p, q)) for p, q in pairs]


def some_chain(board, seed, count):
    """A chain of the board by chance, in which corners may come again."""
    chance = random.Random(seed)
    return [
        (chance.randrange(board[0] + 1), chance.randrange(board[1] + 1)) for _ in range(count)
    ]


def some_cells(board, seed, share=0.5):
    """Cells of the board by chance."""
    chance = random.Random(seed)
    cells = [(x, y) for x in range(board[0]) for y in range(board[1])]
    return [cell for cell in cells if chance.random() < share]


def some_land(board, seed, share=0.7):
    """A map of the board with faces by chance, not all of them connected."""
    chance = random.Random(seed)
    faces = {}
    for x, y in some_cells(board, seed, share):
        # Neighbours often get the same name.
        name = chance.choice(["abc"[x // 2 % 3], "abc"[y // 2 % 3], "d1", "e"])
        faces.setdefault(name, []).append((x, y))
    return LandMap(board, list(faces.items()))


def shuffled(items, seed):
    """The items in another order, some of them several times."""
    chance = random.Random(seed)
    given = list(items) + [item for item in items if chance.random() < 0.3]
    chance.shuffle(given)
    return given


def some_corners(board, seed, share=0.5):
    """Corners of the board by chance."""
    chance = random.Random(seed)
    width, height = board
    corners = [(x, y) for x in range(width + 1) for y in range(height + 1)]
    return [corner for corner in corners if chance.random() < share]


def planes_of(board):
    """Two planes by chance, which are hardly even, the ruler's and that of two rankings."""
    ruler = ruler_ranking(sum(board))
    return [
        some_plane(board, 1), some_plane(board, 2), ranked_plane(board, ruler, ruler),
        ranked_plane(board, *some_rankings(board, 3)),
    ]


def some_rooms(board):
    """Rooms of the board: by chance, without walls, without corners, and with few walls."""
    for seed in range(6):
        yield some_corners(board, seed, 0.35 + 0.1 * seed)
    yield some_corners(board, 0, 2)
    yield []
    yield some_corners(board, 11, 0.97)


def solid_room(board, seed):
    """A room without holes: one that grows from a corner by neighbours as long as it has none."""
    return list(_solid_room(board, seed))


@lru_cache(maxsize=None)
def _solid_room(board, seed):
    chance = random.Random(seed)
    room = some_chain(board, seed, 1)
    for _ in range(3 * sum(board)):
        x, y = chance.choice(room)
        for corner in ((x + 1, y), (x - 1, y), (x, y + 1), (x, y - 1)):
            if 0 <= corner[0] <= board[0] and 0 <= corner[1] <= board[1]:
                if corner not in room and not holes_of(board, room + [corner]):
                    room = room + [corner]
    return room


def some_line(board, chance):
    """The line of a deed by chance, on few names, so that many are refused."""
    word = chance.choice(
        ["stroke"] * 6 + ["shape"] * 3 + ["pin"] * 4 + ["erase"] * 3
        + ["place", "place", "wall", "wall", "drop", "drop", "unpin", "clear"]
    )
    name = chance.choice(["a", "b2", "c", "d", "e", "f", "g", "h"])
    corner = f"{chance.randrange(board[0] + 1)},{chance.randrange(board[1] + 1)}"
    if word == "stroke":
        return f"stroke {name} {some_path_text(board, chance)}"
    if word == "shape":
        chain = some_chain(board, chance.randrange(10 ** 6), chance.choice([1, 2, 3, 3, 4, 6]))
        return " ".join(["shape", name] + [f"{x},{y}" for x, y in chain])
    if word == "place":
        return f"place {name} {corner}"
    if word in ("wall", "clear"):
        return f"{word} {corner}"
    return f"{word} {name}"


def likely_line(desk, chance):
    """A line by chance whose name mostly is one that the desk has, or has not, as it must."""
    names = [entry[0] for entry in desk.strokes() + desk.shapes() + desk.places()]
    for _ in range(6):
        line = some_line(desk.board, chance)
        word, name = line.split(" ")[:2]
        if (name in names) != (word in ("stroke", "shape", "place", "wall", "clear")):
            break
    return line


def some_path_text(board, chance):
    """The text of a path by chance."""
    (x, y), (u, v) = sorted([some_chain(board, chance.randrange(10 ** 6), 1)[0] for _ in range(2)])
    letters = ["E"] * (u - x) + ["N" if v > y else "S"] * abs(v - y)
    chance.shuffle(letters)
    return " ".join([f"{x},{y}"] + ["".join(letters)] * (len(letters) > 0))
