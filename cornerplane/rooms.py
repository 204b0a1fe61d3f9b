"""Rooms: lists of corners, their holes and their pieces."""

from cornerplane.groups import ALL_MOVES, SIDE_MOVES, connected_groups


def holes(board, room):
    """The groups of missing corners that the outside does not reach, by their least corners."""
    width, height = board
    inside = {corner: True for corner in room}
    # The rim of corners around the board is missing, and it is one group with the outside.
    missing = [
        (x, y) for x in range(-1, width + 2) for y in range(-1, height + 2)
        if (x, y) not in inside
    ]
    return [group for group in connected_groups(missing, ALL_MOVES) if (-1, -1) not in group]


def room_pieces(room):
    """The groups of corners of the room that unit steps connect, by their least corners."""
    return connected_groups(room, SIDE_MOVES)
