"""Layouts: what lies on a desk between two deeds, and what each deed makes of it."""

from cornerplane.changes import amend
from cornerplane.conflicts import find_conflict
from cornerplane.errors import Blocked, NameTaken, NoChange, Pinned, UnknownName
from cornerplane.paths import from_lesser_end
from cornerplane.windings import sides_of


class Layout:
    """A plane with strokes, shapes, places and walls. A deed changes only a new copy of it."""

    def __init__(self, plane):
        self.plane = plane
        # The kept paths of each stroke and of each pinned shape, by its name, in their order.
        self.keeping = {}
        # The chains of the shapes and the corners of the places, by their names.
        self.chains = {}
        self.spots = {}
        # The walls, as the keys.
        self.blocks = {}

    def twin(self):
        """A layout with the same things on it."""
        other = Layout(self.plane)
        other.keeping = {name: self.keeping[name] for name in self.keeping}
        other.chains = {name: self.chains[name] for name in self.chains}
        other.spots = {name: self.spots[name] for name in self.spots}
        other.blocks = {corner: True for corner in self.blocks}
        return other

    def kept_paths(self):
        """The tuples (name, path) of the kept paths, in their order."""
        return [(name, path) for name in self.keeping for path in self.keeping[name]]


def _refuse_taken(layout, name):
    """Raise an error if a stroke, a shape or a place has the name."""
    if name in layout.keeping or name in layout.chains or name in layout.spots:
        raise NameTaken(name)


def _put_stroke(layout, name, path):
    _refuse_taken(layout, name)
    for keeper, kept in layout.kept_paths():
        certificate = find_conflict(path, kept)
        if certificate is not None:
            raise Blocked(keeper, certificate)
    layout.plane = amend(layout.plane, [path])
    layout.keeping[name] = (path,)


def _drop_stroke(layout, name):
    # Pinned shapes keep paths too, but they are no strokes.
    if name not in layout.keeping or name in layout.chains:
        raise UnknownName(name)
    del layout.keeping[name]


def _add_shape(layout, name, corners):
    _refuse_taken(layout, name)
    layout.chains[name] = corners


def _pin_shape(layout, name):
    if name not in layout.chains:
        raise UnknownName(name)
    if name in layout.keeping:
        raise NoChange()
    sides = [layout.plane.line(a, b) for a, b in sides_of(layout.chains[name])]
    layout.keeping[name] = tuple([from_lesser_end(tuple(side)) for side in sides])


def _unpin_shape(layout, name):
    if name not in layout.chains:
        raise UnknownName(name)
    if name not in layout.keeping:
        raise NoChange()
    del layout.keeping[name]


def _add_place(layout, name, corner):
    _refuse_taken(layout, name)
    layout.spots[name] = corner


def _erase(layout, name):
    if name in layout.spots:
        del layout.spots[name]
    elif name not in layout.chains:
        raise UnknownName(name)
    elif name in layout.keeping:
        raise Pinned(name)
    else:
        del layout.chains[name]


def _block(layout, corner):
    if corner in layout.blocks:
        raise NoChange()
    layout.blocks[corner] = True


def _unblock(layout, corner):
    if corner not in layout.blocks:
        raise NoChange()
    del layout.blocks[corner]


# What each deed does with a new layout.
ACTIONS = {
    "stroke": _put_stroke,
    "drop": _drop_stroke,
    "shape": _add_shape,
    "pin": _pin_shape,
    "unpin": _unpin_shape,
    "place": _add_place,
    "erase": _erase,
    "wall": _block,
    "clear": _unblock,
}


def layout_after(layout, deed):
    """The layout that a deed makes of this one, which stays as it is."""
    word, *parts = deed
    other = layout.twin()
    action = ACTIONS[word]
    action(other, *parts)
    return other
