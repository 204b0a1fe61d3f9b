"""Slots, rankings of slots, and the planes that rankings give."""

from cornerplane.errors import BadRanking
from cornerplane.grid import half_pairs, step_count
from cornerplane.lines import HALF_LETTERS
from cornerplane.planes import Plane


def slot_count(board):
    """The number of slots of each half."""
    return board[0] + board[1]


def slot_after(board, half, corner):
    """The slot of the steps that leave the corner in a path of the half, read from the west."""
    x, y = corner
    if half == "rising":
        return x + y
    return x + board[1] - y


def ranked_steeps(ranking, slot, steps, steep):
    """The `steep` slots with the highest ranks among `steps` slots from `slot` on, ascending."""
    highest_first = sorted(range(slot, slot + steps), key=lambda s: ranking[s], reverse=True)
    return sorted(highest_first[:steep])


def ranked_plane(board, rising, falling):
    """The plane of two rankings."""
    for half, ranking in (("rising", rising), ("falling", falling)):
        if sorted(ranking) != list(range(slot_count(board))):
            raise BadRanking(half)
    return Plane(
        board, _ranked_table(board, "rising", rising), _ranked_table(board, "falling", falling)
    )


def _ranked_table(board, half, ranking):
    """The table of the half in the plane of its ranking."""
    flat_letter, steep_letter = HALF_LETTERS[half]
    letters = []
    for p, q in half_pairs(board, half):
        slot = slot_after(board, half, p)
        if slot in ranked_steeps(ranking, slot, step_count(p, q), abs(q[1] - p[1])):
            letters.append(steep_letter)
        else:
            letters.append(flat_letter)
    return "".join(letters)


def ranking_by(keys):
    """A ranking in which a slot with a greater key has a higher rank."""
    ranking = [0] * len(keys)
    lowest_first = sorted(range(len(keys)), key=lambda slot: (keys[slot], slot))
    for rank, slot in enumerate(lowest_first):
        ranking[slot] = rank
    return ranking


def ruler_ranking(size):
    """The ranking of the slots 0 to size - 1 by mirrored bits."""
    digits = 0
    while 1 << digits < size:
        digits += 1
    return ranking_by([_mirrored(slot, digits) for slot in range(size)])


def _mirrored(number, digits):
    """The number that the binary digits give in reverse order."""
    mirrored = 0
    for _ in range(digits):
        mirrored = 2 * mirrored + number % 2
        number = number // 2
    return mirrored


def stray(plane, p, q):
    """How far the line of p and q runs from the straight ruler."""
    start, end = sorted([p, q])
    line = plane.line(start, end)
    steps = len(line) - 1
    all_steep = abs(end[1] - start[1])
    return max([
        abs(steps * abs(corner[1] - start[1]) - all_steep * index)
        for index, corner in enumerate(line)
    ])
