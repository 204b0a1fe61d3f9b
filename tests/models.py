"""A slow, plain desk that does all deeds anew for each question."""

from cornerplane.changes import amend
from cornerplane.conflicts import find_conflict
from cornerplane.deeds import parse_deed
from cornerplane.errors import Blocked, NameTaken, NoChange, Pinned, UnknownName
from cornerplane.rankings import ranked_plane, ruler_ranking
from tests.oracles import (
    board_cells, board_corners, in_conflict, least_apart, sees, walk_steps, winding_number,
)


def normal(row):
    return min(tuple(row), tuple(row)[::-1])


class Model:
    """What lies on a desk after some deeds, as points 83 to 87 tell it."""

    def __init__(self, board, rising=None, falling=None):
        ruler = ruler_ranking(sum(board))
        self.board = board
        self.ranks = [list(ruler if row is None else row) for row in (rising, falling)]
        self.plane = ranked_plane(board, *self.ranks)
        self.strokes, self.shapes, self.places = {}, {}, {}
        self.order = []
        self.walls = []

    def sides(self, name):
        chain = self.shapes[name]
        ends = [chain[(at + 1) % len(chain)] for at in range(len(chain))]
        return [normal(self.plane.line(a, b)) for a, b in zip(chain, ends)]

    def kept(self):
        found = []
        for name in self.order:
            if name in self.strokes:
                found.append((name, self.strokes[name]))
            else:
                found += [(name, side) for side in self.sides(name)]
        return found

    def refusal(self, deed):
        """The error with which point 85 refuses a deed that is of a form, or None."""
        word, name = deed[0], deed[1]
        used = {**self.strokes, **self.shapes, **self.places}
        if word in ("stroke", "shape", "place") and name in used:
            return NameTaken(name)
        known = {
            "drop": [self.strokes], "pin": [self.shapes], "unpin": [self.shapes],
            "erase": [self.shapes, self.places],
        }
        if word in known and not any(name in table for table in known[word]):
            return UnknownName(name)
        pinned = name in self.order and name in self.shapes
        if word == "erase" and pinned:
            return Pinned(name)
        no_change = {
            "pin": pinned, "unpin": not pinned, "wall": name in self.walls,
            "clear": name not in self.walls,
        }
        if no_change.get(word):
            return NoChange()
        if word == "stroke":
            for keeper, path in self.kept():
                if in_conflict(deed[2], path):
                    return Blocked(keeper, find_conflict(deed[2], path))
        return None

    def do(self, line):
        deed = parse_deed(self.board, line)
        error = self.refusal(deed)
        if error is not None:
            raise error
        word, name = deed[0], deed[1]
        if word == "stroke":
            self.plane = amend(self.plane, [deed[2]])
            self.strokes[name] = deed[2]
        if word in ("stroke", "pin"):
            self.order.append(name)
        if word in ("drop", "unpin"):
            self.order.remove(name)
        if word in ("drop", "erase"):
            for table in (self.strokes, self.shapes, self.places):
                table.pop(name, None)
        if word in ("shape", "place"):
            {"shape": self.shapes, "place": self.places}[word][name] = deed[2]
        if word == "wall":
            self.walls.append(name)
        if word == "clear":
            self.walls.remove(name)

    def room(self):
        return [corner for corner in board_corners(self.board) if corner not in self.walls]

    def picture(self, name):
        steps = walk_steps(self.plane, self.shapes[name])
        return tuple(
            cell for cell in board_cells(self.board) if winding_number(steps, cell) % 2 == 1
        )

    def lamp(self):
        if not self.places:
            return None
        names, room = sorted(self.places), self.room()
        views = [
            [w for w in room if sees(self.plane, room, w, self.places[name])] for name in names
        ]
        lit = [w for w in room if all(w in view for view in views)]
        if lit:
            return ("lamp", lit[0])
        apart = least_apart(views)
        return ("dark",) if apart is None else ("three", tuple(names[at] for at in apart))


def replayed(board, rising, falling, lines):
    model = Model(board, rising, falling)
    for line in lines:
        model.do(line)
    return model


def told(desk):
    """All that a desk tells."""
    corners = board_corners(desk.board)[:30]
    return {
        "board": desk.board, "plane": (desk.plane.board, desk.plane.rising, desk.plane.falling),
        "done": desk.done(), "undone": desk.undone(), "strokes": desk.strokes(),
        "kept": desk.kept(), "shapes": desk.shapes(), "pinned": desk.pinned(),
        "places": desk.places(), "walls": desk.walls(), "room": desk.room(),
        "pictures": [desk.picture(name).cells for name, chain in desk.shapes()],
        "visible": [desk.visible(corner) for corner in corners], "lamp": desk.lamp(),
        "text": desk.text(),
    }


def expected(model, done, undone):
    """All that the desk of a model tells."""
    room, plane = model.room(), model.plane
    corners = board_corners(model.board)[:30]
    head = [
        "cornerplane", "board {} {}".format(*model.board),
        " ".join(["rising", *map(str, model.ranks[0])]),
        " ".join(["falling", *map(str, model.ranks[1])]),
        f"done {len(done)} {len(done) + len(undone)}",
    ]
    return {
        "board": model.board, "plane": (model.board, plane.rising, plane.falling),
        "done": done, "undone": undone,
        "strokes": [(name, model.strokes[name]) for name in model.order if name in model.strokes],
        "kept": model.kept(), "shapes": sorted(model.shapes.items()),
        "pinned": [name for name in model.order if name in model.shapes],
        "places": sorted(model.places.items()), "walls": sorted(model.walls), "room": room,
        "pictures": [model.picture(name) for name in sorted(model.shapes)],
        "visible": [[w for w in room if sees(plane, room, z, w)] for z in corners],
        "lamp": model.lamp(), "text": "".join(row + "\n" for row in head + done + undone),
    }
