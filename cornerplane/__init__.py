"""Cornerplane: exact straight lines, shapes, maps and sight on a grid of whole corners."""
