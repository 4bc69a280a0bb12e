"""Faces: the largest pieces of the surface with one origin, in one plane."""

from solidnames.axes import AXES, axis_index, replaced
from solidnames.planes import direction_indexes
from solidnames.skins import Skin
from solidnames.solids import Solid
from solidnames.walks import outlines_of


class Face:
    """A face of a marked solid, from its skin; outlines are those on its plane."""

    def __init__(self, skin, index):
        panels = skin.groups[index]
        self.name = skin.names[index]
        _, self.origin, self.around, self.number, self.many = self.name
        self.side = skin.side_of(panels[0])
        self.least = skin.ends_of(panels[0])[0]
        self._at = self.least[axis_index(self.side[1])]
        boxes = layer_boxes(skin, panels)
        self.layer = Solid(*boxes)
        self._area = self.layer.volume
        self.outlines = outlines_on_plane(skin, index)

    @property
    def at(self):
        """The coordinate of its plane."""
        return self._at

    @property
    def area(self):
        return self._area

    def __eq__(self, other):
        return (isinstance(other, Face) and self.name == other.name and self.side == other.side
                and self.layer == other.layer and self.outlines == other.outlines)


def faces(marked):
    """All faces, ascending by name."""
    skin = Skin(marked)
    order = sorted([(name, index) for index, name in enumerate(skin.names)])
    return [Face(skin, index) for _, index in order]


def layer_boxes(skin, panels):
    """Boxes, one cell deep, of the cells of the solid at the panels."""
    boxes = []
    for panel in panels:
        low, high = skin.ends_of(panel)
        side = skin.side_of(panel)
        index = axis_index(side[1])
        if side[0] == "+":
            low = replaced(low, index, low[index] - 1)
        else:
            high = replaced(high, index, high[index] + 1)
        boxes.append((low, high))
    return boxes


def outlines_on_plane(skin, index):
    """The outer outline of a face and the tuple of the others; each border has the origin of the face that it meets."""
    first, second = direction_indexes(skin.side_of(skin.groups[index][0])[1])
    sides = {f"-{AXES[second]}": 0, f"+{AXES[first]}": 1, f"+{AXES[second]}": 2, f"-{AXES[first]}": 3}
    cells = []
    origins = {}
    for panel in skin.groups[index]:
        strips = skin.strips_of(skin.split_panel(panel)[1])
        # The strip 1 begins at the coordinate with the index 0.
        cell = (strips[first] - 1, strips[second] - 1)
        cells.append(cell)
        for side, (other, _) in skin.beside[panel].items():
            if skin.owners[other] != index:
                border = (*cell, sides[side])
                origins[border] = skin.labels[other]
    return outlines_of(cells, (skin.coordinates[first], skin.coordinates[second]), origins)
