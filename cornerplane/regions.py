"""Regions: sets of cells, painted with chains, and their connected pieces."""

from cornerplane.groups import SIDE_MOVES, connected_groups
from cornerplane.windings import cells_west_of, total_windings


class Region:
    """A set of cells."""

    def __init__(self, cells):
        self.cells = tuple(sorted(set(cells)))

    def __iter__(self):
        return iter(self.cells)

    def __len__(self):
        return len(self.cells)

    def __contains__(self, cell):
        return cell in self.cells

    def __or__(self, other):
        return Region(self.cells + other.cells)

    def __and__(self, other):
        return Region([cell for cell in self.cells if cell in other.cells])

    def __sub__(self, other):
        return Region([cell for cell in self.cells if cell not in other.cells])

    def __xor__(self, other):
        only_here = [cell for cell in self.cells if cell not in other.cells]
        only_there = [cell for cell in other.cells if cell not in self.cells]
        return Region(only_here + only_there)


def paint(plane, chains):
    """The region of the cells around which the chains wind an odd number of times."""
    return Region([cell for cell, number in total_windings(plane, chains) if number % 2 == 1])


def pieces(region):
    """The connected pieces of the region, in ascending order of their least cells."""
    return [Region(group) for group in connected_groups(region.cells, SIDE_MOVES)]


def region_of_steps(steps):
    """The region of the cells that have an odd number of the steps (a, b) to the east of them."""
    odd = {}
    for a, b in steps:
        for cell in cells_west_of(a, b):
            odd[cell] = not odd.get(cell, False)
    return Region([cell for cell in odd if odd[cell]])
