"""What differs between two marked solids, or between two results."""

from solidnames.errors import InvalidKind
from solidnames.faces import faces
from solidnames.grids import boxes_of
from solidnames.meanings import items_of, meaning_among
from solidnames.overlaps import blocks_of_both
from solidnames.skins import Skin
from solidnames.solids import Solid

KINDS = ("face", "edge", "corner")


def added(one, other):
    """The Solid of the cells that only other has."""
    return taken(other, one)


def taken(one, other):
    """The Solid of the cells that only one has."""
    lines, first, second = blocks_of_both(one, other)
    boxes = boxes_of(lines, [flag and not other_flag for flag, other_flag in zip(first, second)])
    return Solid(*boxes)


def fates(one, other, kind="face"):
    """A dict from the names of the faces, edges or corners of one, ascending, to what they mean in other."""
    if kind not in KINDS:
        raise InvalidKind(kind)
    skin = Skin(other)
    items = items_of(skin, kind)
    return {name: meaning_among(skin, items, name) for name in names_of_kind(Skin(one), kind)}


def news(one, other, kind="face"):
    """The names in other that nothing in one has become, ascending."""
    known = {fate[1]: True for fate in list(fates(one, other, kind).values()) if fate[0] in ("same", "changed")}
    return tuple([name for name in names_of_kind(Skin(other), kind) if name not in known])


def names_of_kind(skin, kind):
    """The names of the faces, edges or corners, ascending."""
    return sorted(skin.names) if kind == "face" else [item.name for item in items_of(skin, kind)]


def moves(one, other):
    """A dict from the names of the faces of one that are the same in other to how far their planes are moved."""
    kept = [name for name, fate in fates(one, other).items() if fate[0] == "same"]
    places, other_places = coordinates_of(one), coordinates_of(other)
    return {name: other_places[name] - places[name] for name in kept}


def coordinates_of(marked):
    """A dict from the names of the faces to the coordinates of their planes."""
    return {face.name: face.at for face in faces(marked)}


def statuses(one, other):
    """Tuples (name, status, status) of the features whose statuses in two Results differ."""
    told, other_told = told_by_name(one), told_by_name(other)
    order = list(other_told) + [name for name in told if name not in other_told]
    return [(name, told.get(name), other_told.get(name)) for name in order if told.get(name) != other_told.get(name)]


def told_by_name(result):
    """A dict from the names of the features to their statuses, in their order."""
    return {record.feature.name: record.told for record in result.records}
