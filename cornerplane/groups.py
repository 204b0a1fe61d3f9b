"""Groups of corners or cells that are connected by given moves."""

# The differences in x and y of a move across a side, and of any move to the next corner or cell.
SIDE_MOVES = ((-1, 0), (0, -1), (0, 1), (1, 0))
ALL_MOVES = ((-1, -1), (-1, 0), (-1, 1), (0, -1), (0, 1), (1, -1), (1, 0), (1, 1))


def connected_groups(items, moves):
    """The groups of the items, each ascending, in ascending order of their least items."""
    known = {item: True for item in items}
    grouped = set()
    groups = []
    for item in sorted(known):
        if item not in grouped:
            group = _group_around(known, moves, item)
            groups.append(group)
            for other in group:
                grouped.add(other)
    return groups


def _group_around(known, moves, start):
    """The known items to which a row of moves leads from `start`, ascending."""
    reached = {start: True}
    waiting = [start]
    while len(waiting) > 0:
        x, y = waiting.pop()
        for east, north in moves:
            other = (x + east, y + north)
            if other in known and other not in reached:
                reached[other] = True
                waiting.append(other)
    return sorted(reached)
