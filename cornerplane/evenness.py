"""Even planes: those whose lines depend only on their slots and their numbers of steps."""

from cornerplane.errors import NotEven
from cornerplane.orders import rankings_for
from cornerplane.paths import path_kind, path_letters
from cornerplane.planes import each_line
from cornerplane.rankings import slot_after


def uneven_certificate(plane):
    """The first pair whose letters differ from an alike pair's, behind that pair; or None."""
    first_alike = {}
    for line in each_line(plane):
        other = first_alike.setdefault(_likeness(plane.board, line), line)
        if path_letters(other) != path_letters(line):
            return ((other[0], other[-1]), (line[0], line[-1]))
    return None


def _likeness(board, line):
    """What decides the letters of a line in an even plane."""
    half = path_kind(line)
    start, end = line[0], line[-1]
    return (half, slot_after(board, half, start), end[0] - start[0], abs(end[1] - start[1]))


def rankings_of(plane):
    """A tuple of two rankings whose plane is the given one."""
    certificate = uneven_certificate(plane)
    if certificate is not None:
        raise NotEven(certificate)
    # Rankings in which every line of the plane is a line have no other plane.
    return rankings_for(plane.board, list(each_line(plane)))
