"""Sharing: corners that closed sets have in common, or three of the sets that have none."""

from cornerplane.closures import open_pair
from cornerplane.conflicts import common_corners
from cornerplane.errors import NoReading, NotClosedSet
from cornerplane.grid import corners_of


def shared_corners(corners, sets):
    """Those of the corners that lie in all the sets."""
    return [corner for corner in corners if all([corner in one for one in sets])]


def least_three(sets):
    """The least indexes (i, j, k), i <= j <= k, of sets that share no corner, or None."""
    for i, first in enumerate(sets):
        for j in range(i, len(sets)):
            common = common_corners(first, sets[j])
            for k in range(j, len(sets)):
                if len(common_corners(common, sets[k])) == 0:
                    return (i, j, k)
    return None


def find_shared(plane, sets):
    """A tuple of the word shared and the least shared corner, or of three and three indexes."""
    for index, corners in enumerate(sets):
        _refuse_open(plane, index, corners)
    shared = shared_corners(corners_of(plane.board), sets)
    if len(shared) > 0:
        return ("shared", shared[0])
    return ("three", least_three(sets))


def _refuse_open(plane, index, corners):
    """Raise an error with the index if the set is not closed."""
    certificate = open_pair(plane, corners)
    if certificate is not None:
        raise NotClosedSet(index, certificate)


class Readings:
    """Numbered closed sets of a plane, each of which tells where something is."""

    def __init__(self, plane):
        self._plane = plane
        self._next_number = 0
        self._sets = {}

    def put(self, corners):
        """Add a closed set and return its number."""
        number = self._next_number
        _refuse_open(self._plane, number, corners)
        self._sets[number] = sorted(set(corners))
        self._next_number = number + 1
        return number

    def withdraw(self, number):
        """Remove the set of this number."""
        if number not in self._sets:
            raise NoReading(number)
        del self._sets[number]

    def agreed(self):
        """The corners that lie in all present sets, ascending."""
        return shared_corners(corners_of(self._plane.board), list(self._sets.values()))

    def dispute(self):
        """The least numbers i <= j <= k of present sets that share no corner, or None."""
        numbers = self.present()
        three = least_three([self._sets[number] for number in numbers])
        if three is None:
            return None
        return tuple([numbers[index] for index in three])

    def present(self):
        """The numbers of the present sets, ascending."""
        return sorted(self._sets)
