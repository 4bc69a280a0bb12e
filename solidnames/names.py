"""The names of all faces, edges and corners."""

from solidnames.edges import corners_of, edges_of
from solidnames.faces import Face
from solidnames.skins import Skin


def names(marked):
    """The names of all faces, then of all edges, then of all corners, each ascending."""
    skin = Skin(marked)
    return sorted(skin.names) + [one.name for one in edges_of(skin)] + [one.name for one in corners_of(skin)]


def find(marked, name):
    """The Face, Edge or Corner with this name, or None."""
    if not isinstance(name, tuple) or not name or has_bool(name):
        return None
    skin = Skin(marked)
    if name[0] == "face":
        found = [Face(skin, index) for index, other in enumerate(skin.names) if other == name]
    else:
        found = [one for one in edges_of(skin) + corners_of(skin) if one.name == name]
    return found[0] if found else None


def has_bool(value):
    """Whether a bool, which Python takes for an integer, is in nested tuples."""
    left = [value]
    while left:
        last = left.pop()
        if isinstance(last, bool):
            return True
        if isinstance(last, tuple):
            left.extend(list(last))
    return False
