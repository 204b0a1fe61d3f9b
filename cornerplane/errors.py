"""The errors that the program raises. Each one keeps its arguments as attributes."""


class PlaneError(ValueError):
    """The base class of all errors of the program."""


class OffBoard(PlaneError):
    """A corner is not on the board."""

    def __init__(self, corner):
        super().__init__(f"the corner {corner} is not on the board")
        self.corner = corner


class NotAPath(PlaneError):
    """A row of corners is not a path, as its corner at an index shows."""

    def __init__(self, index):
        super().__init__(f"the row is no path at index {index}")
        self.index = index


class NotOnPath(PlaneError):
    """A corner does not lie on a path."""

    def __init__(self, corner):
        super().__init__(f"the corner {corner} is not on the path")
        self.corner = corner


class NotALine(PlaneError):
    """A stroke is not a line of the plane."""

    def __init__(self, index):
        super().__init__(f"the stroke at index {index} is not a line of the plane")
        self.index = index


class NoStroke(PlaneError):
    """A sheet has no stroke of a number."""

    def __init__(self, number):
        super().__init__(f"there is no stroke {number}")
        self.number = number


class NoReading(PlaneError):
    """There is no reading of a number."""

    def __init__(self, number):
        super().__init__(f"there is no reading {number}")
        self.number = number


class Conflict(PlaneError):
    """Two strokes conflict."""

    def __init__(self, first, second, certificate):
        super().__init__(f"the strokes {first} and {second} conflict at {certificate}")
        self.first = first
        self.second = second
        self.certificate = certificate


class Blocked(PlaneError):
    """A new stroke conflicts with a kept path."""

    def __init__(self, name, certificate):
        super().__init__(f"the stroke is blocked by {name} at {certificate}")
        self.name = name
        self.certificate = certificate


class NotClosedSet(PlaneError):
    """A set of corners is not closed."""

    def __init__(self, index, certificate):
        super().__init__(f"the set {index} is not closed at {certificate}")
        self.index = index
        self.certificate = certificate


class NotEven(PlaneError):
    """A plane is not even."""

    def __init__(self, certificate):
        super().__init__(f"the plane is not even at {certificate}")
        self.certificate = certificate


class Ring(PlaneError):
    """Paths of one half contradict each other."""

    def __init__(self, half, certificate):
        super().__init__(f"the {half} half has the ring {certificate}")
        self.half = half
        self.certificate = certificate


class BadTable(PlaneError):
    """A table does not have one letter of its half for each pair."""

    def __init__(self, half):
        super().__init__(f"the {half} table has a wrong length or letter")
        self.half = half


class BrokenTable(PlaneError):
    """A table is not consistent, as the path of a pair shows."""

    def __init__(self, half, start, end):
        super().__init__(f"the {half} table is broken at {start} and {end}")
        self.half = half
        self.start = start
        self.end = end


class BadRanking(PlaneError):
    """A list is not a ranking of the board."""

    def __init__(self, half):
        super().__init__(f"the {half} list is no ranking of the board")
        self.half = half


class BadText(PlaneError):
    """A line of a text does not have the required form."""

    def __init__(self, line_number):
        super().__init__(f"line {line_number} does not have the required form")
        self.line_number = line_number


class TooLarge(PlaneError):
    """A board has too many cells for a count."""


class TooFar(PlaneError):
    """Two corners are too far apart for a list of all paths."""


class NothingToUndo(PlaneError):
    """Nothing is left to be taken back."""


class NothingToRedo(PlaneError):
    """Nothing is left to be done again."""


class NoChange(PlaneError):
    """A deed would change nothing."""


class OpenSteps(PlaneError):
    """Steps do not close at a corner."""

    def __init__(self, corner):
        super().__init__(f"the steps are open at the corner {corner}")
        self.corner = corner


class OpenLoop(PlaneError):
    """A list of corners is not a closed loop."""

    def __init__(self, index):
        super().__init__(f"the list at index {index} is no loop")
        self.index = index


class NameTaken(PlaneError):
    """A name is in use."""

    def __init__(self, name):
        super().__init__(f"the name {name} is taken")
        self.name = name


class UnknownName(PlaneError):
    """Nothing has a name."""

    def __init__(self, name):
        super().__init__(f"the name {name} is unknown")
        self.name = name


class Overlap(PlaneError):
    """Two faces have a cell in common."""

    def __init__(self, cell):
        super().__init__(f"the cell {cell} is in two faces")
        self.cell = cell


class Pinned(PlaneError):
    """A shape is pinned and cannot be erased."""

    def __init__(self, name):
        super().__init__(f"the shape {name} is pinned")
        self.name = name
