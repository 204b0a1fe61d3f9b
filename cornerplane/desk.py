"""The desk: strokes, shapes, places and walls on a board, with a log of all deeds."""

from cornerplane.deeds import DIGITS, parse_deed
from cornerplane.errors import BadText, NothingToRedo, NothingToUndo, PlaneError, UnknownName
from cornerplane.grid import corners_of
from cornerplane.lamps import find_lamp
from cornerplane.layouts import Layout, layout_after
from cornerplane.notation import board_of_row
from cornerplane.rankings import ranked_plane, ruler_ranking, slot_count
from cornerplane.regions import paint
from cornerplane.sight import seen

# The number of lines of a desk's text before those of its deeds.
HEAD_LINES = 5


class Desk:
    """A desk with a board, whose plane follows the strokes that are put."""

    def __init__(self, board, *, rising=None, falling=None):
        self._rising = _first_ranking(board, rising)
        self._falling = _first_ranking(board, falling)
        self.board = board
        self.plane = ranked_plane(board, self._rising, self._falling)
        # The lines of the log, and the layout before and after each of its deeds.
        self._lines = []
        self._layouts = [Layout(self.plane)]
        # The number of deeds in effect: those behind them in the log were taken back.
        self._in_effect = 0

    def do(self, line):
        """Do the deed of a line."""
        self.do_all([line])

    def do_all(self, lines):
        """Do the deeds of all lines in order, or none of them."""
        layout = self._layout()
        layouts = []
        for line in lines:
            layout = layout_after(layout, parse_deed(self.board, line))
            layouts.append(layout)
        if len(layouts) > 0:
            self._lines = [*self._lines[:self._in_effect], *lines]
            self._layouts = self._layouts[:self._in_effect + 1] + layouts
            self._move_to(len(self._lines))

    def undo(self):
        """Take back the last deed in effect."""
        if self._in_effect == 0:
            raise NothingToUndo()
        self._move_to(self._in_effect - 1)

    def redo(self):
        """Do the deed again that was taken back last."""
        if self._in_effect == len(self._lines):
            raise NothingToRedo()
        self._move_to(self._in_effect + 1)

    def _move_to(self, count):
        """Let the first `count` deeds of the log be in effect."""
        self._in_effect = count
        self.plane = self._layout().plane

    def _layout(self):
        return self._layouts[self._in_effect]

    def done(self):
        """The lines of the deeds in effect, in order."""
        return self._lines[:self._in_effect]

    def undone(self):
        """The lines of the deeds that can be done again, the next one first."""
        return self._lines[self._in_effect:]

    def strokes(self):
        """The tuples (name, path) of the strokes, in the order in which they were put."""
        shapes = self._layout().chains
        return [(name, path) for name, path in self.kept() if name not in shapes]

    def kept(self):
        """The tuples (name, path) of the kept paths, in their order."""
        return self._layout().kept_paths()

    def shapes(self):
        """The tuples (name, corners) of the shapes, ascending by name."""
        return sorted(self._layout().chains.items())

    def pinned(self):
        """The names of the pinned shapes, in the order in which they were pinned."""
        layout = self._layout()
        return [name for name in layout.keeping if name in layout.chains]

    def places(self):
        """The tuples (name, corner) of the places, ascending by name."""
        return sorted(self._layout().spots.items())

    def walls(self):
        """The walls, ascending."""
        return sorted(self._layout().blocks)

    def room(self):
        """The corners of the board that are no walls, ascending."""
        blocks = self._layout().blocks
        return [corner for corner in corners_of(self.board) if corner not in blocks]

    def picture(self, name):
        """The region that the shape of this name paints."""
        chains = self._layout().chains
        if name not in chains:
            raise UnknownName(name)
        return paint(self.plane, [chains[name]])

    def visible(self, corner):
        """The corners that a corner sees in the room, ascending."""
        return seen(self.plane, self.room(), corner)

    def lamp(self):
        """What `find_lamp` tells of the places, with names instead of indexes; None without any."""
        places = self.places()
        if len(places) == 0:
            return None
        found = find_lamp(self.plane, self.room(), [corner for name, corner in places])
        if found[0] == "three":
            return ("three", tuple([places[index][0] for index in found[1]]))
        return found

    def text(self):
        """The desk as text, from which `load_desk` makes it again."""
        rows = [
            "cornerplane",
            _row("board", self.board),
            _row("rising", self._rising),
            _row("falling", self._falling),
            _row("done", (self._in_effect, len(self._lines))),
        ]
        return "".join([f"{row}\n" for row in rows + self._lines])


def _first_ranking(board, ranking):
    """A copy of the ranking, or the ruler's if there is none."""
    if ranking is None:
        return ruler_ranking(slot_count(board))
    return list(ranking)


def _row(word, numbers):
    """The word and the numbers, with a blank between each two."""
    return " ".join([word, *[str(number) for number in numbers]])


def load_desk(text):
    """The desk that has this text."""
    rows = text.split("\n")
    # What stands behind the last newline is a line that is not ended, so it is none of the rows.
    rest = rows.pop()
    desk = _desk_of_head(rows)
    in_effect, logged = _counts_of_row(_row_at(rows, HEAD_LINES))
    _do_rows(desk, rows, logged)
    last = HEAD_LINES + len(desk.done())
    if len(rows) > last or rest != "":
        raise BadText(last + 1)
    while str(len(desk.done())) != in_effect:
        desk.undo()
    return desk


def _row_at(rows, number):
    """The line of this number, counted from 1, if it is there."""
    if len(rows) < number:
        raise BadText(number)
    return rows[number - 1]


def _desk_of_head(rows):
    """The desk without deeds that the lines before the counts describe."""
    if _row_at(rows, 1) != "cornerplane":
        raise BadText(1)
    board = board_of_row("board", _row_at(rows, 2))
    if board is None:
        raise BadText(2)
    rising = _ranking_of_row("rising", _row_at(rows, 3), board)
    if rising is None:
        raise BadText(3)
    falling = _ranking_of_row("falling", _row_at(rows, 4), board)
    if falling is None:
        raise BadText(4)
    return Desk(board, rising=rising, falling=falling)


def _ranking_of_row(word, row, board):
    """The ranking of a line that has this word and each slot number once, or None."""
    first, *ranks = row.split(" ")
    slots = [str(slot) for slot in range(slot_count(board))]
    if first != word or sorted(ranks) != sorted(slots):
        return None
    return [int(rank) for rank in ranks]


def _counts_of_row(row):
    """The texts of the two numbers of the line of counts."""
    words = row.split(" ")
    if len(words) != 3 or words[0] != "done":
        raise BadText(HEAD_LINES)
    in_effect, logged = words[1:]
    if not _is_number(in_effect) or not _is_number(logged):
        raise BadText(HEAD_LINES)
    # Such texts are compared like their numbers, which may have too many digits to be read.
    if (len(in_effect), in_effect) > (len(logged), logged):
        raise BadText(HEAD_LINES)
    return (in_effect, logged)


def _is_number(text):
    """True if the text is a number without leading zeros."""
    if text == "" or not all([sign in DIGITS for sign in text]):
        return False
    return text == "0" or text[0] != "0"


def _do_rows(desk, rows, logged):
    """Do the deeds of the lines behind the head, as many as the text of a number tells."""
    while str(len(desk.done())) != logged:
        number = HEAD_LINES + len(desk.done()) + 1
        row = _row_at(rows, number)
        try:
            desk.do(row)
        except PlaneError:
            raise BadText(number) from None
