"""Orders: what paths say about the ranks of slots, and rankings that agree with them."""

from cornerplane.errors import Ring
from cornerplane.paths import path_kind, path_letters
from cornerplane.rankings import ranking_by, slot_after, slot_count


def said(board, half, paths):
    """The pairs (s, t) that at least one of the paths says, ascending."""
    return sorted({pair for path in paths for pair in _said_by(board, half, path)})


def _said_by(board, half, path):
    """The pairs (s, t) that a path says: its step in slot s is steep, its step in slot t flat."""
    if path_kind(path) != half:
        return []
    letters = path_letters(path)
    first = slot_after(board, half, path[0])
    steep = [first + k for k, letter in enumerate(letters) if letter != "E"]
    flat = [first + k for k, letter in enumerate(letters) if letter == "E"]
    return [(s, t) for s in steep for t in flat]


def find_ring(board, half, paths):
    """A tuple (i, j, s, t) such that path i says (s, t) and path j says (t, s), or None."""
    sayers = {}
    for index, path in enumerate(paths):
        for s, t in _said_by(board, half, path):
            if (t, s) in sayers:
                return (index, sayers[(t, s)], s, t)
            sayers[(s, t)] = index
    return None


def is_ring(board, half, paths, certificate):
    """True if the certificate is a ring of the half."""
    i, j, s, t = certificate
    if not 0 <= i < len(paths) or not 0 <= j < len(paths):
        return False
    return (s, t) in _said_by(board, half, paths[i]) and (t, s) in _said_by(board, half, paths[j])


def rankings_for(board, paths):
    """A tuple of two rankings in whose plane all the paths are lines."""
    return (_ranking_for(board, "rising", paths), _ranking_for(board, "falling", paths))


def _ranking_for(board, half, paths):
    """A ranking of the half that agrees with its paths."""
    # A slot above another one is also above all that are below that one: so it is above more.
    below = [0] * slot_count(board)
    for s, _ in sure_order(board, half, paths):
        below[s] += 1
    return ranking_by(below)


def sure_order(board, half, paths):
    """The pairs (s, t) with s ranked above t in every ranking that agrees with the paths."""
    pairs = _said_without_ring(board, half, paths)
    return [
        (s, t) for s in range(slot_count(board)) for t in sorted(_shortest_chains(pairs, s))
    ]


def order_chain(board, half, paths, s, t):
    """A shortest list of slots that leads from s to t by what the paths say, or None."""
    return _shortest_chains(_said_without_ring(board, half, paths), s).get(t)


def _said_without_ring(board, half, paths):
    """The pairs that the paths say, if these have no ring."""
    ring = find_ring(board, half, paths)
    if ring is not None:
        raise Ring(half, ring)
    return said(board, half, paths)


def _shortest_chains(pairs, s):
    """The shortest ascending and descending chains of pairs that start with slot s, by their end."""
    ascending = _chains_along([pair for pair in pairs if pair[0] < pair[1]], s)
    descending = _chains_along([pair for pair in pairs if pair[0] > pair[1]], s)
    return {**ascending, **descending}


def _chains_along(pairs, s):
    """The shortest chains of pairs from slot s to the others, by their end."""
    chains = {}
    ends = {s: [s]}
    while len(ends) > 0:
        ends = _longer_chains(pairs, ends, chains)
        chains = {**chains, **ends}
    return chains


def _longer_chains(pairs, ends, known):
    """The chains one slot longer than those in `ends` that lead to slots not known, by their end."""
    longer = {}
    for slot in ends:
        for a, b in pairs:
            if a == slot and b not in known and b not in longer:
                longer[b] = [*ends[slot], b]
    return longer
