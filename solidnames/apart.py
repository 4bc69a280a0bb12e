"""Taking solids apart one by one, with papers that show how, or that it cannot be done."""

from solidnames.axes import SIDES
from solidnames.errors import Overlapping, TooMany
from solidnames.limits import MAX_SOLIDS
from solidnames.overlaps import blocks_of_both, common_cell
from solidnames.pairs import way_to
from solidnames.values import is_integer

OPPOSITE = {"-x": "+x", "+x": "-x", "-y": "+y", "+y": "-y", "-z": "+z", "+z": "-z"}


def taken_apart(*solids):
    """("apart", steps), or ("stuck", indexes) with the greatest stuck set."""
    ways = ways_barred(solids)
    left = list(range(len(solids)))
    steps = []
    # What leaves past all that are left leaves past fewer, too, so no step is ever a wrong one.
    while left:
        free = [(index, side) for index in left for side in SIDES if leaves(index, side, left, ways)]
        if not free:
            return ("stuck", tuple(left))
        steps.append(free[0])
        left = [index for index in left if index != free[0][0]]
    return ("apart", tuple(steps))


def shows_apart(value, *solids):
    """Whether any value is a paper of these solids."""
    ways = ways_barred(solids)
    if not isinstance(value, tuple) or len(value) != 2 or not isinstance(value[1], tuple):
        return False
    if value[0] == "apart":
        return shows_steps(value[1], len(solids), ways)
    return value[0] == "stuck" and shows_stuck(value[1], len(solids), ways)


def shows_steps(steps, many, ways):
    """Whether steps take all solids, each past those that are left."""
    left = list(range(many))
    for step in steps:
        if not is_step(step) or step[0] not in left or not leaves(step[0], step[1], left, ways):
            return False
        left = [index for index in left if index != step[0]]
    return not left


def is_step(value):
    return isinstance(value, tuple) and len(value) == 2 and is_integer(value[0]) and value[1] in SIDES


def shows_stuck(indexes, many, ways):
    """Whether indexes, ascending, are those of solids none of which leaves past the others."""
    if len(indexes) < 2 or not all([is_integer(index) and 0 <= index < many for index in indexes]):
        return False
    if not all([low < high for low, high in zip(indexes, indexes[1:])]):
        return False
    return not any([leaves(index, side, indexes, ways) for index in indexes for side in SIDES])


def leaves(index, side, others, ways):
    """Whether a solid leaves to the side past others; it is not in its own way."""
    return not any([(index, side, other) in ways for other in others])


def ways_barred(solids):
    """A dict with the tuples (index, side, index) of solids and others that are in their way to a side."""
    if len(solids) > MAX_SOLIDS:
        raise TooMany(MAX_SOLIDS)
    pairs = [(index, other) for other in range(len(solids)) for index in range(other)]
    blocks = {(index, other): blocks_of_both(solids[index], solids[other]) for index, other in pairs}
    cells = [common_cell(lines, first, second) for lines, first, second in list(blocks.values())]
    cells = [cell for cell in cells if cell is not None]
    if cells:
        raise Overlapping(min(cells))
    ways = {}
    for index, other in pairs:
        lines, first, second = blocks[(index, other)]
        for side in SIDES:
            if way_to(lines, second, first, side) is not None:
                ways[(index, side, other)] = True
                # Seen from the first one, it is the other one that is moved.
                ways[(other, OPPOSITE[side], index)] = True
    return ways
