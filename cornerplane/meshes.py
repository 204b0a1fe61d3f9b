"""Meshes: chains that have one rim together, and faces that fill an outline."""

from cornerplane.errors import NotOnPath
from cornerplane.grid import cells_of
from cornerplane.windings import net_steps, sides_of, total_windings, windings


def insert_corner(plane, chain, index, corner):
    """The chain with a corner of the side that starts at `index` inserted behind that start."""
    start, end = sides_of(chain)[index]
    if corner not in plane.line(start, end):
        raise NotOnPath(corner)
    return [*chain[:index + 1], corner, *chain[index + 1:]]


def same_rim(plane, chains, others):
    """True if the net steps of two lists of chains are equal."""
    return net_steps(plane, chains) == net_steps(plane, others)


def mesh_fault(plane, faces, outline):
    """The least cell around which the faces wind otherwise than the outline, or None."""
    of_faces = dict(total_windings(plane, faces))
    of_outline = dict(windings(plane, outline))
    for cell in cells_of(plane.board):
        if of_faces.get(cell, 0) != of_outline.get(cell, 0):
            return cell
    return None
