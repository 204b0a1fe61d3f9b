"""The board: its corners, its cells, its unit steps, and the pairs of corners of the two halves."""

# The direction of the unit step with these differences in x and y.
DIRECTIONS = {(1, 0): "E", (-1, 0): "W", (0, 1): "N", (0, -1): "S"}

# The differences in x and y of the steps that a path in normal form can take.
STEPS = {"E": (1, 0), "N": (0, 1), "S": (0, -1)}


def corners_of(board):
    """All corners of the board, ascending."""
    width, height = board
    return [(x, y) for x in range(width + 1) for y in range(height + 1)]


def cells_of(board):
    """All cells of the board, ascending."""
    width, height = board
    return [(x, y) for x in range(width) for y in range(height)]


def on_board(board, corner):
    """True if the corner, which may be any one, is on the board."""
    width, height = board
    x, y = corner
    return 0 <= x <= width and 0 <= y <= height


def neighbours(board, corner):
    """The corners of the board that are one unit step away, ascending."""
    x, y = corner
    around = [(x - 1, y), (x, y - 1), (x, y + 1), (x + 1, y)]
    return [other for other in around if on_board(board, other)]


def rising_pairs(board):
    """The pairs (p, q) with q east and north of p, ascending."""
    width, height = board
    return [
        ((x, y), (east, north))
        for x in range(width + 1)
        for y in range(height + 1)
        for east in range(x + 1, width + 1)
        for north in range(y + 1, height + 1)
    ]


def falling_pairs(board):
    """The pairs (p, q) with q east and south of p, ascending."""
    width, height = board
    return [
        ((x, y), (east, south))
        for x in range(width + 1)
        for y in range(height + 1)
        for east in range(x + 1, width + 1)
        for south in range(y)
    ]


def half_pairs(board, half):
    """The pairs of the half, ascending."""
    if half == "rising":
        return rising_pairs(board)
    return falling_pairs(board)


def step_count(p, q):
    """The number of unit steps from p to q."""
    return abs(q[0] - p[0]) + abs(q[1] - p[1])


def direction(a, b):
    """The letter of the unit step from a to b, or None if they are no neighbours."""
    return DIRECTIONS.get((b[0] - a[0], b[1] - a[1]))


def after_step(corner, letter):
    """The corner one step east, north or south."""
    east, north = STEPS[letter]
    return (corner[0] + east, corner[1] + north)
