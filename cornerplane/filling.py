"""Filling: a plane in which given strokes are lines, and the choices that lead to it."""

from cornerplane.errors import Conflict, NotALine
from cornerplane.grid import after_step
from cornerplane.lines import (
    HALF_LETTERS, first_letters, front_is_line, in_one_row, line_between, pairs_by_steps,
)
from cornerplane.planes import Plane
from cornerplane.strokes import find_conflicts


class Chooser:
    """Decides free pairs, first by given numbers, then by a preferred plane, and lists them."""

    def __init__(self, choices, prefer):
        self.pairs = []
        self._choices = choices
        self._prefer = prefer

    def choose(self, p, q):
        """0 if the line of the next free pair (p, q) begins east, else 1."""
        at = len(self.pairs)
        self.pairs.append((p, q))
        if at < len(self._choices):
            return self._choices[at]
        if self._prefer is None:
            return 0
        return first_choice(self._prefer, p, q)


def first_choice(plane, p, q):
    """0 if the line from p to q begins east in the plane, else 1."""
    if plane.step_from(p, q)[0] > p[0]:
        return 0
    return 1


def fill(board, strokes, *, choices=(), prefer=None):
    """A plane that has every stroke as a line."""
    _refuse_conflict(strokes)
    lines = _filled_lines(board, strokes, Chooser(choices, prefer))
    rising = first_letters(board, "rising", lines)
    falling = first_letters(board, "falling", lines)
    return Plane(board, rising, falling)


def _refuse_conflict(strokes):
    """Raise the conflict with the least second index, and for it the least first one."""
    found = find_conflicts(strokes)
    if len(found) > 0:
        first, second, certificate = min(found, key=lambda entry: (entry[1], entry[0]))
        raise Conflict(first, second, certificate)


def _filled_lines(board, strokes, chooser):
    """The lines of all pairs, as a dict."""
    lines = stroke_lines(strokes)
    for half in ("rising", "falling"):
        for p, q in pairs_by_steps(board, half):
            if (p, q) not in lines:
                candidates = admissible_lines(lines, half, p, q)
                if len(candidates) == 1:
                    lines[(p, q)] = candidates[0]
                else:
                    lines[(p, q)] = candidates[chooser.choose(p, q)]
    return lines


def stroke_lines(strokes):
    """The lines that the strokes give to pairs of their corners, as a dict."""
    lines = {}
    for stroke in strokes:
        for i, p in enumerate(stroke):
            for j in range(i + 1, len(stroke)):
                if not in_one_row(p, stroke[j]):
                    lines[(p, stroke[j])] = stroke[i:j + 1]
    return lines


def admissible_lines(lines, half, p, q):
    """The candidates for the line of (p, q) that fit the shorter lines, the eastern one first."""
    found = []
    for letter in HALF_LETTERS[half]:
        candidate = (p, *line_between(lines, after_step(p, letter), q))
        if front_is_line(lines, candidate):
            found.append(candidate)
    return found


def free_pairs(plane, strokes):
    """The pairs whose lines the strokes and the shorter lines leave open, in order of filling."""
    for index, stroke in enumerate(strokes):
        if not plane.has_path(stroke):
            raise NotALine(index)
    # Preferring the plane fills it again, so that the same pairs become free.
    chooser = Chooser([], plane)
    _filled_lines(plane.board, strokes, chooser)
    return chooser.pairs


def choices_of(plane, strokes):
    """The choices that fill the plane around the strokes."""
    return [first_choice(plane, p, q) for p, q in free_pairs(plane, strokes)]
