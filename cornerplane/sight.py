"""Sight: which corners see each other along lines within a room."""

from cornerplane.errors import NoChange


def blocked_at(plane, room, z, w):
    """The first corner on the line from z to w that is not in the room, or None."""
    for corner in plane.line(z, w):
        if corner not in room:
            return corner
    return None


def seen(plane, room, z):
    """The corners that z sees in the room, ascending."""
    # A corner is found faster in a dict than in a list.
    inside = {corner: True for corner in room}
    return [corner for corner in sorted(inside) if blocked_at(plane, inside, z, corner) is None]


def sight_tree(plane, room, z):
    """The tuples (corner, parent) of the corners that z sees; the parent comes before it."""
    return [(corner, plane.step_from(corner, z)) for corner in seen(plane, room, z)]


class Watch:
    """What a fixed corner sees in a room while walls are put and removed."""

    def __init__(self, plane, room, post):
        self._plane = plane
        self._post = post
        self._inside = {corner: True for corner in room}

    def block(self, corner):
        """Take a corner out of the room."""
        if corner not in self._inside:
            raise NoChange()
        del self._inside[corner]

    def unblock(self, corner):
        """Put a corner into the room."""
        if corner in self._inside:
            raise NoChange()
        self._inside[corner] = True

    def view(self):
        """The corners that the post sees, ascending."""
        return seen(self._plane, self._inside, self._post)

    def room(self):
        """The corners of the room, ascending."""
        return sorted(self._inside)
