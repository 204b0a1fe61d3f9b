"""Lamps: corners that see all of some places, or three places that no corner sees."""

from cornerplane.sharing import least_three, shared_corners
from cornerplane.sight import seen


def common_view(plane, room, places):
    """The corners of the room that see every place, ascending."""
    return shared_corners(sorted(set(room)), _views(plane, room, places))


def _views(plane, room, places):
    """For each place the corners that see it: those are the ones that it sees."""
    return [seen(plane, room, place) for place in places]


def find_lamp(plane, room, places):
    """A tuple that begins with lamp, three or dark."""
    lit = common_view(plane, room, places)
    if len(lit) > 0:
        return ("lamp", lit[0])
    three = least_three(_views(plane, room, places))
    if three is None:
        return ("dark",)
    return ("three", three)


def kernel(plane, room):
    """The corners of the room that see every corner of the room, ascending."""
    return common_view(plane, room, sorted(set(room)))
