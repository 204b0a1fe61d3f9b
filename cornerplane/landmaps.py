"""Maps: the cells of a board, with the names of the faces that have them."""

from cornerplane.errors import NameTaken, Overlap, UnknownName
from cornerplane.grid import cells_of
from cornerplane.regions import Region


class LandMap:
    """A map of a board: named faces that have no cell in common."""

    def __init__(self, board, faces):
        self.board = board
        self._name_at = {}
        taken = set()
        for name, cells in faces:
            if name in taken:
                raise NameTaken(name)
            taken.add(name)
            self._give_name(name, cells)

    def _give_name(self, name, cells):
        for cell in sorted(set(cells)):
            if cell in self._name_at:
                raise Overlap(cell)
            self._name_at[cell] = name

    def names(self):
        """The names of the faces that have cells, ascending."""
        return sorted(set(list(self._name_at.values())))

    def region(self, name):
        """The region of a face, which is empty if no face has the name."""
        return Region([cell for cell in self._name_at if self._name_at[cell] == name])

    def face_at(self, cell):
        """The name of the face that has the cell, or the empty string."""
        return self._name_at.get(cell, "")


def overlay(land, other):
    """The map in which each cell has its names in both maps, joined by a plus."""
    name_at = {}
    for cell in cells_of(land.board):
        both = (land.face_at(cell), other.face_at(cell))
        name_at[cell] = "+".join([name for name in both if name != ""])
    return _map_of_names(land.board, name_at)


def merge_faces(land, names, name):
    """The map in which the listed faces are one face of the given name."""
    known = land.names()
    for listed in names:
        if listed not in known:
            raise UnknownName(listed)
    if name in known and name not in names:
        raise NameTaken(name)
    merged = [cell for old in names for cell in land.region(old)]
    return _with_cells(land, name, merged)


def put_in(land, name, region):
    """The map in which the cells of the region have the name, and the face of that name stays."""
    return _with_cells(land, name, region)


def _with_cells(land, name, cells):
    """The map in which the cells have the name, whatever face had them before."""
    name_at = {cell: land.face_at(cell) for cell in cells_of(land.board)}
    for cell in cells:
        name_at[cell] = name
    return _map_of_names(land.board, name_at)


def _map_of_names(board, name_at):
    """The map in which each cell has the name that the dict gives to it."""
    faces = {}
    for cell in name_at:
        if name_at[cell] != "":
            faces.setdefault(name_at[cell], []).append(cell)
    return LandMap(board, list(faces.items()))
