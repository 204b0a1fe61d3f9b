"""Regions: sets of cells, painted with chains, and their connected pieces."""

from cornerplane.windings import total_windings


class Region:
    """A set of cells."""

    def __init__(self, cells):
        self.cells = tuple(sorted(set(cells)))

    def __iter__(self):
        return iter(self.cells)

    def __len__(self):
        return len(self.cells)

    def __contains__(self, cell):
        return cell in self.cells

    def __or__(self, other):
        return Region(self.cells + other.cells)

    def __and__(self, other):
        return Region([cell for cell in self.cells if cell in other.cells])

    def __sub__(self, other):
        return Region([cell for cell in self.cells if cell not in other.cells])

    def __xor__(self, other):
        only_here = [cell for cell in self.cells if cell not in other.cells]
        only_there = [cell for cell in other.cells if cell not in self.cells]
        return Region(only_here + only_there)


def paint(plane, chains):
    """The region of the cells around which the chains wind an odd number of times."""
    return Region([cell for cell, number in total_windings(plane, chains) if number % 2 == 1])


def pieces(region):
    """The connected pieces of the region, in ascending order of their least cells."""
    found = []
    seen = set()
    for cell in region:
        if cell not in seen:
            piece = _piece_around(region, cell)
            for other in piece:
                seen.add(other)
            found.append(piece)
    return found


def _piece_around(region, start):
    """The piece of the region that has the cell `start`."""
    reached = {start: True}
    waiting = [start]
    while len(waiting) > 0:
        x, y = waiting.pop()
        for cell in ((x - 1, y), (x, y - 1), (x, y + 1), (x + 1, y)):
            if cell in region and cell not in reached:
                reached[cell] = True
                waiting.append(cell)
    return Region(list(reached))
