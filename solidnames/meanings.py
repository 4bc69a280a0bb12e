"""The candidates of picks, and what a pick means."""

from solidnames.edges import corners_of, edges_of


def meaning_in(skin, pick):
    """What a pick means on a skin."""
    return meaning_among(skin, items_of(skin, pick[0]), pick)


def items_of(skin, kind):
    """The edges or the corners, those that a pick of this kind may mean; faces are told by the skin itself."""
    if kind == "face":
        return []
    return edges_of(skin) if kind == "edge" else corners_of(skin)


def meaning_among(skin, items, pick):
    """What a pick means on a skin with these edges or corners."""
    if pick[0] == "face":
        found = [skin.names[index] for index in face_candidates(skin, pick)]
    else:
        met = (pick[1], pick[2]) if pick[0] == "edge" else pick[1]
        found = candidates_among(skin, items, met, pick)
    if not found:
        return ("lost",)
    if len(found) > 1:
        return ("unclear", tuple(sorted(found)))
    return ("same" if found[0] == pick else "changed", found[0])


def face_candidates(skin, pick):
    """The indexes of the faces that a pick of a face may mean."""
    _, origin, around, number, many = pick
    near = [index for index, name in enumerate(skin.names) if name[1] == origin]
    alike = [index for index in near if skin.names[index][2] == around]
    if len(alike) == many:
        return [index for index in alike if skin.names[index][3] == number]
    if alike or not near:
        return alike
    common = [common_origins(skin.names[index][2], around) for index in near]
    return [index for index, count in zip(near, common) if count == max(common)]


def common_origins(one, other):
    return len([origin for origin in one if origin in other])


def candidates_among(skin, items, picks, pick):
    """The names of the edges or corners, in their order, that a pick with these picks of faces may mean."""
    lists = [[skin.names[index] for index in face_candidates(skin, face)] for face in picks]
    together = {name: True for names in lists for name in names}
    found = [item.name for item in items if all([name in together for name in item.faces])
             and all([any([name in item.faces for name in names]) for names in lists])]
    number, many = pick[-2], pick[-1]
    if len(found) == many and all([len(names) == 1 for names in lists]):
        return [found[number]]
    return found
