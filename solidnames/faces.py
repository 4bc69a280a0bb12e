"""Faces: the largest pieces of the surface with one origin, in one plane."""

from solidnames.axes import axis_index, replaced
from solidnames.skins import Skin
from solidnames.solids import Solid


class Face:
    """A face of a marked solid, from its skin."""

    def __init__(self, skin, index):
        panels = skin.groups[index]
        self.name = skin.names[index]
        _, self.origin, self.around, self.number, self.many = self.name
        self.side = skin.side_of(panels[0])
        self.least = skin.ends_of(panels[0])[0]
        self._at = self.least[axis_index(self.side[1])]
        boxes = layer_boxes(skin, panels)
        self.layer = Solid(*boxes)
        self._area = self.layer.volume

    @property
    def at(self):
        """The coordinate of its plane."""
        return self._at

    @property
    def area(self):
        return self._area

    def __eq__(self, other):
        return (isinstance(other, Face) and self.name == other.name and self.side == other.side
                and self.layer == other.layer)


def faces(marked):
    """All faces, ascending by name."""
    skin = Skin(marked)
    order = sorted([(name, index) for index, name in enumerate(skin.names)])
    return [Face(skin, index) for _, index in order]


def layer_boxes(skin, panels):
    """Boxes, one cell deep, of the cells of the solid at the panels."""
    boxes = []
    for panel in panels:
        low, high = skin.ends_of(panel)
        side = skin.side_of(panel)
        index = axis_index(side[1])
        if side[0] == "+":
            low = replaced(low, index, low[index] - 1)
        else:
            high = replaced(high, index, high[index] + 1)
        boxes.append((low, high))
    return boxes
