"""Strokes: which of them conflict, which can be kept, and a sheet to draw them on."""

from cornerplane.conflicts import find_conflict
from cornerplane.errors import NoStroke, NothingToUndo


def find_conflicts(strokes):
    """The tuples (i, j, certificate) of all strokes i < j that conflict, ascending."""
    found = []
    for i, stroke in enumerate(strokes):
        for j in range(i + 1, len(strokes)):
            certificate = find_conflict(stroke, strokes[j])
            if certificate is not None:
                found.append((i, j, certificate))
    return found


def compatible(strokes):
    """True if no two of the strokes conflict."""
    return len(find_conflicts(strokes)) == 0


def keep_in_order(strokes):
    """The indexes of the kept strokes, and (index, kept index, certificate) of the others."""
    kept = []
    refused = []
    for index, stroke in enumerate(strokes):
        reason = _first_conflict(strokes, stroke, kept)
        if reason is None:
            kept.append(index)
        else:
            refused.append((index, reason[0], reason[1]))
    return (kept, refused)


def _first_conflict(strokes, stroke, indexes):
    """The first of the indexes whose stroke conflicts, with the certificate, or None."""
    for index in indexes:
        certificate = find_conflict(stroke, strokes[index])
        if certificate is not None:
            return (index, certificate)
    return None


class Sheet:
    """A sheet of numbered strokes that need not be compatible."""

    def __init__(self):
        self._next_number = 0
        self._paths = {}
        self._conflicts = []
        # What to return to: each deed puts new values in place and changes no old one.
        self._past = []

    def put(self, path):
        """Put a stroke on the sheet and return its number."""
        number = self._next_number
        found = [(other, number, find_conflict(self._paths[other], path)) for other in self._paths]
        new = [entry for entry in found if entry[2] is not None]
        self._remember()
        self._next_number = number + 1
        self._paths = {**self._paths, number: path}
        self._conflicts = sorted(self._conflicts + new)
        return number

    def drop(self, number):
        """Remove the stroke of this number."""
        if number not in self._paths:
            raise NoStroke(number)
        self._remember()
        self._paths = {other: self._paths[other] for other in self._paths if other != number}
        self._conflicts = [entry for entry in self._conflicts if number not in entry[:2]]

    def undo(self):
        """Take back the latest deed that was not yet taken back."""
        if len(self._past) == 0:
            raise NothingToUndo()
        self._next_number, self._paths, self._conflicts = self._past.pop()

    def _remember(self):
        self._past.append((self._next_number, self._paths, self._conflicts))

    def strokes(self):
        """The tuples (number, path), ascending."""
        return list(self._paths.items())

    def conflicts(self):
        """The tuples (i, j, certificate) of all numbers i < j whose strokes conflict, ascending."""
        return list(self._conflicts)

    def __iter__(self):
        return iter(self._paths.values())

    def __len__(self):
        return len(self._paths)

    def __contains__(self, path):
        return path in list(self._paths.values())
