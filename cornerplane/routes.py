"""Routes: from corner to corner by sight, and the layers that tell how far each one is."""

from cornerplane.sight import blocked_at, seen


def sight_layers(plane, room, start):
    """The corners of the room by the least number of sights from the start, each list ascending."""
    layers = []
    layer = [start] if start in room else []
    while len(layer) > 0:
        layers.append(layer)
        layer = _next_layer(plane, room, layers)
    return layers


def _next_layer(plane, room, layers):
    """The corners that the last layer sees and no layer has, ascending."""
    reached = {corner for layer in layers for corner in layer}
    return sorted({
        corner for z in layers[-1] for corner in seen(plane, room, z) if corner not in reached
    })


def is_layers(plane, room, start, layers):
    """True if the layers are those of sight from the start, each in any order."""
    corners = [corner for layer in layers for corner in layer]
    layer_of = {corner: at for at, layer in enumerate(layers) for corner in layer}
    if start not in room or len(layers) == 0 or list(layers[0]) != [start]:
        return False
    if not all([len(layer) > 0 for layer in layers]) or len(corners) != len(layer_of):
        return False
    if not all([corner in room for corner in corners]):
        return False
    return all([_fits_layers(plane, room, layer_of, corner) for corner in corners])


def _fits_layers(plane, room, layer_of, corner):
    """True if a corner is seen from the layer before its own, and sees none behind the next one."""
    at = layer_of[corner]
    # What is in no layer counts as far behind the last one.
    layers_seen = [layer_of.get(other, at + 2) for other in seen(plane, room, corner)]
    return max(layers_seen) <= at + 1 and (at == 0 or at - 1 in layers_seen)


def route(plane, room, a, b):
    """A shortest list of corners from a to b in which each one sees the next, or None."""
    before = []
    for layer in sight_layers(plane, room, a):
        if b in layer:
            return _route_back(plane, room, before, b)
        before.append(layer)
    return None


def _route_back(plane, room, layers, b):
    """The route through one corner of each of the layers to b."""
    corners = [b]
    for layer in reversed(layers):
        seeing = [corner for corner in layer if blocked_at(plane, room, corner, corners[0]) is None]
        corners = [seeing[0], *corners]
    return corners
