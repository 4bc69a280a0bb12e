"""Runs of cells, by the faces at which they begin and end."""

from solidnames.axes import axis_index
from solidnames.grids import lengths, strides
from solidnames.skins import Skin


def chords(marked, axis):
    """Tuples (name, other, length, count) of the runs along the axis, ascending."""
    index = axis_index(axis)
    skin = Skin(marked)
    counts = {}
    for begin, end, length, many in runs_of(skin, index):
        key = (skin.owners[begin], skin.owners[end], length)
        counts[key] = counts.get(key, 0) + many
    return sorted([(skin.names[one], skin.names[other], length, many)
                   for (one, other, length), many in counts.items()])


def runs_of(skin, index):
    """Tuples (panel, panel, length, count) of the runs between two panels."""
    step = strides(skin.coordinates)[index]
    runs = []
    for begin in sorted(skin.owners):
        axis, place = skin.split_panel(begin)
        if axis != index or not skin.filled[place]:
            continue
        last = place
        while skin.filled[last]:
            last = last + step
        low, high = skin.corner_of(place)[index], skin.corner_of(last)[index]
        runs.append((begin, begin + last - place, high - low, width_of(skin, place, index)))
    return runs


def width_of(skin, place, index):
    """How many rows of cells along the axis lie side by side in a block."""
    many = 1
    for axis, strip in enumerate(skin.strips_of(place)):
        if axis != index:
            many = many * lengths(skin.coordinates[axis])[strip]
    return many
