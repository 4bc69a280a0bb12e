"""The surface of a marked solid, cut into panels by its lines, and the faces that they make up.

A panel has the squares between a block and the block below it along an axis (see grids). Its
number is its place in the labels of all axes, those of x first, then those of y, then those of z.
"""

from solidnames.axes import AXES, SIDES
from solidnames.grids import corner_at, strides, strips_at

# Around a segment lie a block, those below it along the first and along the second of the axes
# across, and the one below it along both. They count 1, 2, 4 and 8 if they are filled. The panels
# 0 and 1 between them are those along the first axis, 0 the one on the upper side along the second
# axis; 2 and 3 are those along the second axis, 2 the one on the upper side along the first axis.
MEETINGS = (
    (), ((0, 2, "out"),), ((0, 3, "out"),), ((2, 3, "seam"),),
    ((1, 2, "out"),), ((0, 1, "seam"),), ((0, 3, "out"), (1, 2, "out")), ((1, 3, "in"),),
    ((1, 3, "out"),), ((0, 2, "out"), (1, 3, "out")), ((0, 1, "seam"),), ((1, 2, "in"),),
    ((2, 3, "seam"),), ((0, 3, "in"),), ((0, 2, "in"),), ())


class Skin:
    """Panels with the origins of their squares, where they meet, and the faces with their names.

    A face is told by its index: groups has the panels of each one, owners the face of each panel,
    and names the names. beside has for each panel the sides of its border, and there the panel that
    meets it, with the kind. meetings has all of them as tuples (axis, place, panel, panel, kind):
    the row of segments along the axis that begins at the lower corner of the block at this place.
    """

    def __init__(self, marked):
        self.coordinates = marked.coordinates
        self.filled = marked.filled
        self.labels = [origin for labels in marked.squares for origin in labels]
        self.meetings = meetings_of(self.coordinates, self.filled)
        self.beside = panels_beside(self.meetings, len(self.filled))
        self.groups = groups_of(self.labels, self.beside)
        self.owners = {panel: index for index, panels in enumerate(self.groups) for panel in panels}
        self.names = names_of(self)

    def strips_of(self, place):
        """The strip on each axis of the block at this place."""
        return strips_at(self.coordinates, place)

    def corner_of(self, place):
        """The least point of the block at this place."""
        return corner_at(self.coordinates, place)

    def split_panel(self, panel):
        """The index of the axis of a panel and the place of its block."""
        return panel // len(self.filled), panel % len(self.filled)

    def side_of(self, panel):
        """The direction from the solid to the outside."""
        axis, place = self.split_panel(panel)
        return ("-" if self.filled[place] else "+") + AXES[axis]

    def inside_of(self, panel):
        """The place of the block of the solid at a panel."""
        axis, place = self.split_panel(panel)
        return place if self.filled[place] else place - strides(self.coordinates)[axis]

    def ends_of(self, panel):
        """The least and the greatest point of a panel."""
        axis, place = self.split_panel(panel)
        steps = strides(self.coordinates)
        return self.corner_of(place), self.corner_of(place + sum(steps) - steps[axis])

    def around_of(self, index):
        """The indexes of the other faces that a face meets, ascending."""
        met = [self.owners[other] for panel in self.groups[index] for other, _ in list(self.beside[panel].values())]
        return [other for other in sorted(set(met)) if other != index]


def meetings_of(lines, filled):
    """All meetings of panels."""
    found = []
    many = len(filled)
    if not any(filled):
        return found
    for axis, first, second in ((0, 1, 2), (1, 0, 2), (2, 0, 1)):
        across, along = strides(lines)[first], strides(lines)[second]
        for place, here in enumerate(filled):
            # A place below 0 is an outermost one from the other end, where nothing is filled either.
            mask = here + 2 * filled[place - across] + 4 * filled[place - along] + 8 * filled[place - across - along]
            if mask in (0, 15):
                continue
            upper, other = first * many + place, second * many + place
            panels = (upper, upper - along, other, other - across)
            for one, another, kind in MEETINGS[mask]:
                found.append((axis, place, panels[one], panels[another], kind))
    return found


def panels_beside(meetings, many):
    """For each panel a dict from the four sides of its border to the panel there and the kind."""
    beside = {}
    for axis, place, one, other, kind in meetings:
        for panel, reached in ((one, other), (other, one)):
            # The border lies across the axis that is neither that of the panel nor that of the segments.
            border = AXES[3 - axis - panel // many]
            side = ("-" if panel % many == place else "+") + border
            beside.setdefault(panel, {})[side] = (reached, kind)
    return beside


def groups_of(labels, beside):
    """The panels of each face, ascending; the faces in the order of their first panels."""
    seen = {}
    found = []
    for start in sorted(beside):
        if start in seen:
            continue
        seen[start] = True
        group = [start]
        reached = 0
        while reached < len(group):
            for panel, kind in list(beside[group[reached]].values()):
                if kind == "seam" and labels[panel] == labels[start] and panel not in seen:
                    seen[panel] = True
                    group.append(panel)
            reached += 1
        found.append(sorted(group))
    return found


def names_of(skin):
    """The name of each face."""
    alike = {}
    for index, panels in enumerate(skin.groups):
        around = tuple(sorted(set([skin.labels[skin.groups[other][0]] for other in skin.around_of(index)])))
        # Panels of one axis have the order of their least points.
        rank = (skin.ends_of(panels[0])[0], place_of_side(skin.side_of(panels[0])))
        alike.setdefault((skin.labels[panels[0]], around), []).append((rank, index))
    found = {}
    for origin, around in list(alike):
        ranked = sorted(alike[(origin, around)])
        for number, (_, index) in enumerate(ranked):
            found[index] = ("face", origin, around, number, len(ranked))
    return [found[index] for index in range(len(skin.groups))]


def place_of_side(side):
    """The place of a side in the order of all sides."""
    return [index for index, other in enumerate(SIDES) if other == side][0]
