"""The order of all coordinates of a result, and how far a parameter can be changed until it breaks.

While the order stays, the solids behind all features keep their names, so that picks mean the same
faces. Then all that linear formulas place lies at linear coordinates, and what no status and no
order forbids at two values of the parameter is not forbidden between them either.
"""

from solidnames.axes import AXES
from solidnames.errors import Failed, NotDone, NotLinear, UnknownName
from solidnames.limits import LIMIT
from solidnames.slopes import LINEAR, OTHER
from solidnames.values import is_within


def marks(result):
    """A dict from the axes to the coordinates at which the features of a Result placed something, tuples."""
    tools = [tool for record in result.records for tool in record.tools]
    return {axis: tuple([number for tool in tools for number in tool.marks[index]])
            for index, axis in enumerate(AXES)}


def same_order(one, other):
    """Whether two Results have the same copies, and marks in the same order."""
    if list(counts_of(one).items()) != list(counts_of(other).items()):
        return False
    first, second = marks(one), marks(other)
    return all([ranks(first[axis]) == ranks(second[axis]) for axis in AXES])


def counts_of(result):
    """A dict from the names of the Copies that are well to their counts, in their order."""
    results = result.results
    found = {}
    for record in result.records:
        if record.feature.kind == "copy" and record.told == ("ok",):
            counts = [formula.evaluate(results)[1] for formula in record.feature.formulas[1::2]]
            found[record.feature.name] = tuple(counts)
    return found


def ranks(numbers):
    """For each number its place among the different ones."""
    places = {number: place for place, number in enumerate(sorted(set(numbers)))}
    return [places[number] for number in numbers]


def stable(part, name):
    """The range (low, high) of a parameter in which all stays well and in order."""
    check_stable(part, name)
    return (end_of_range(part, name, -1), end_of_range(part, name, 1))


def breaks(part, name):
    """What breaks at the lower and at the upper end of the range."""
    low, high = stable(part, name)
    return (break_at(part, name, low - 1), break_at(part, name, high + 1))


def check_stable(part, name):
    """The part is well, and all that is on is linear in the parameter."""
    if name not in part.parameters:
        raise UnknownName(name)
    word, number = part.result.results[name]
    if word == "failed":
        raise Failed(number)
    known = dependences(part.parameters, name)
    present = [feature for feature in part.features if part.is_on(feature.name)]
    for feature in present:
        if OTHER in [formula.dependence(known) for formula in formulas_of_feature(feature)]:
            raise NotLinear(feature.name)
    for feature in present:
        if part.result.status(feature.name) != ("ok",):
            raise NotDone(feature.name)


def formulas_of_feature(feature):
    """All Formulas of a feature, those of its sketch, too."""
    if feature.kind in ("add", "cut"):
        return [*feature.formulas, *feature.arguments[1].formulas]
    return list(feature.formulas)


def dependences(parameters, name):
    """A dict from a parameter and those that it reaches to how they depend on it."""
    known = {name: LINEAR}
    left = list(parameters.reached(name))
    while left:
        ready = [other for other in left if not any([read in left for read in parameters[other].names])]
        for other in ready:
            known[other] = parameters[other].dependence(known)
        left = [other for other in left if other not in known]
    return known


def varied(part, name, number):
    """The Result with this integer for the parameter."""
    values = {name: number}
    return part.variant(**values)


def is_stable(part, name, number):
    """Whether the variant with this integer is well and has the order of the part."""
    if not is_within(number):
        return False
    result = varied(part, name, number)
    return first_not_well(result) is None and same_order(part.result, result)


def first_not_well(result):
    """The first record of a feature that is on and not well, or None."""
    found = [record for record in result.records if record.told not in (("ok",), ("off",))]
    return found[0] if found else None


def end_of_range(part, name, step):
    """The last integer, from the present one in the direction of the step, with which all stays well and in order."""
    present = part.result.results[name][1]
    good = present + step
    if not is_stable(part, name, good):
        return present
    bad = present + step * units_in_order(part, name, step)
    if is_stable(part, name, bad):
        return bad
    # Something forbids it that is no mark, such as a value within a formula.
    while abs(bad - good) > 1:
        middle = (good + bad) // 2
        if is_stable(part, name, middle):
            good = middle
        else:
            bad = middle
    return good


def units_in_order(part, name, step):
    """By how many units in the direction of the step the marks stay in their order, and all within LIMIT.

    The next integer, which is known to be a good one, tells how far a unit moves each of them.
    """
    present = part.result.results[name][1]
    first, second = marks(part.result), marks(varied(part, name, present + step))
    units = [LIMIT - step * present]
    for axis in AXES:
        pairs = sorted(set([(number, other - number) for number, other in zip(first[axis], second[axis])]))
        units.extend([units_within(number, move) for number, move in pairs if move != 0])
        for (number, move), (greater, other_move) in zip(pairs, pairs[1:]):
            if move > other_move:
                units.append((greater - number - 1) // (move - other_move))
    return min(units)


def units_within(number, move):
    """By how many units a mark stays within LIMIT, when a unit moves it so far."""
    room = LIMIT - number if move > 0 else LIMIT + number
    return room // abs(move)


def break_at(part, name, number):
    """What breaks with this integer, None if it is beyond LIMIT."""
    if not is_within(number):
        return None
    result = varied(part, name, number)
    failed = first_not_well(result)
    if failed is not None:
        return ("status", failed.feature.name, failed.told)
    counts = counts_of(result)
    for name_of_copy, known in counts_of(part.result).items():
        if counts[name_of_copy] != known:
            return ("count", name_of_copy)
    first, second = marks(part.result), marks(result)
    for axis in AXES:
        if len(first[axis]) != len(second[axis]):
            return ("marks", axis)
    for axis in AXES:
        if ranks(first[axis]) != ranks(second[axis]):
            i, j = first_other_order(first[axis], second[axis])
            return ("order", axis, i, j)
    return None


def first_other_order(one, other):
    """The first two indexes at which numbers compare otherwise in other than in one."""
    for i in range(len(one)):
        compared = [order_of(one[i], number) for number in one[i + 1:]]
        other_compared = [order_of(other[i], number) for number in other[i + 1:]]
        for place, (first, second) in enumerate(zip(compared, other_compared)):
            if first != second:
                return (i, i + 1 + place)
    return None


def order_of(number, other):
    if number == other:
        return 0
    return -1 if number < other else 1
