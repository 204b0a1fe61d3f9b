"""Borders of maps: their arcs, chains along the arcs, and the faces that chains enclose."""

from cornerplane.chains import line_ends
from cornerplane.grid import corners_of, neighbours
from cornerplane.regions import region_of_steps
from cornerplane.windings import unit_steps


def borders(land):
    """The arcs as tuples (left name, right name, corners), sorted by their corners."""
    ways = _border_ways(land)
    arcs = _arcs_of_nodes(ways)
    arcs = sorted(arcs + _closed_arcs(ways, arcs))
    return [(*_names_beside(land, arc[0], arc[1]), arc) for arc in arcs]


def _border_ways(land):
    """For each corner on a border the corners to which border steps lead from it, ascending."""
    ways = {}
    for corner in corners_of(land.board):
        around = neighbours(land.board, corner)
        ends = [other for other in around if _is_border_step(land, corner, other)]
        if len(ends) > 0:
            ways[corner] = ends
    return ways


def _is_border_step(land, a, b):
    """True if the step from a to b has different names on its two sides."""
    left, right = _names_beside(land, a, b)
    return left != right


def _names_beside(land, a, b):
    """The names to the left and to the right of the step from a to b."""
    x, y = min(a, b)
    if a[1] == b[1]:
        one, other = (x, y), (x, y - 1)
    else:
        one, other = (x - 1, y), (x, y)
    # Seen from the lesser corner, the first of the two cells is on the left.
    if a < b:
        return (land.face_at(one), land.face_at(other))
    return (land.face_at(other), land.face_at(one))


def _arcs_of_nodes(ways):
    """The arcs between nodes, in the direction in which their lists of corners are the lesser."""
    nodes = [corner for corner in ways if len(ways[corner]) > 2]
    rows = [_follow(ways, node, second) for node in nodes for second in ways[node]]
    # Each arc was followed in both directions.
    return [row for row in rows if row < row[::-1]]


def _closed_arcs(ways, arcs):
    """The arcs without a node, where `arcs` are all the others."""
    passed = {corner for arc in arcs for corner in arc}
    found = []
    for corner in sorted(ways):
        if corner not in passed:
            row = _follow(ways, corner, ways[corner][0])
            found.append(row)
            for other in row:
                passed.add(other)
    return found


def _follow(ways, start, second):
    """The corners of the arc that goes from `start` to `second` and on to a node or its start."""
    row = [start, second]
    while len(ways[row[-1]]) == 2 and row[-1] != start:
        row.extend([corner for corner in ways[row[-1]] if corner != row[-2]])
    return row


def border_chains(plane, land):
    """The tuples (left name, right name, chain) of the arcs, in their order."""
    return [
        (left, right, [arc[position] for position in line_ends(plane, arc)])
        for left, right, arc in borders(land)
    ]


def paint_face(plane, chains, name):
    """The region that the lines along those of the chains enclose which have the name beside."""
    steps = []
    for left, right, chain in chains:
        if name in (left, right):
            steps.extend(unit_steps(plane, list(zip(chain, chain[1:]))))
    return region_of_steps(steps)
