"""Conflicts between two paths, and their certificates."""


def common_corners(path, other):
    """The corners that lie on both paths, in the order of the first one."""
    on_other = set(other)
    return [corner for corner in path if corner in on_other]


def find_conflict(path, other):
    """The certificate (a, c, b) at which `path` first leaves and meets `other` again, or None."""
    on_other = set(other)
    common = None
    outside = None
    for corner in path:
        if corner in on_other:
            if outside is not None:
                return (common, outside, corner)
            common = corner
        elif common is not None and outside is None:
            outside = corner
    return None


def is_conflict(path, other, certificate):
    """True if the certificate shows that `path` leaves and meets `other` again."""
    a, outside, b = certificate
    if a not in other or b not in other or outside in other:
        return False
    if a not in path or b not in path or outside not in path:
        return False
    start, end = sorted([path.index(a), path.index(b)])
    return start < path.index(outside) < end
