"""Linear formulas: slope * value + rest in one parameter."""

from solidnames.errors import Failed
from solidnames.operations import combined, result_of, total_of

# How a part of a formula depends on the parameter: not at all, in a linear way, or otherwise.
FREE = "free"
LINEAR = "linear"
OTHER = "other"


def dependence_of(code, known):
    """How a formula depends on a parameter; known is a dict from it and those that read it to how they do."""
    stack = []
    for kind, what in code:
        if kind != "operation":
            stack.append(known.get(what, FREE) if kind == "parameter" else FREE)
        elif what != "minus":
            right = stack.pop()
            left = stack.pop()
            stack.append(dependence_of_both(what, left, right))
    return stack[0]


def dependence_of_both(sign, left, right):
    if left == FREE and right == FREE:
        return FREE
    if OTHER in (left, right):
        return OTHER
    if sign in ("+", "-"):
        return LINEAR
    return LINEAR if sign == "*" and FREE in (left, right) else OTHER


def slope_and_rest(code, name, results):
    """Of a formula that is linear; stops with Failed at the first failure of a free part."""
    stack = []
    for kind, what in code:
        if kind == "integer":
            stack.append(free_part(result_of(what)))
        elif kind == "parameter":
            stack.append((True, 1, 0) if what == name else free_part(results[what]))
        elif what == "minus":
            depends, slope, rest = stack.pop()
            stack.append((depends, -slope, -rest))
        else:
            right = stack.pop()
            left = stack.pop()
            stack.append(combined_parts(what, left, right))
    return stack[0][1:]


def free_part(result):
    """A part: whether it depends on the parameter, its slope, its rest."""
    word, number = result
    if word == "failed":
        raise Failed(number)
    return (False, 0, number)


def combined_parts(sign, left, right):
    left_depends, left_slope, left_rest = left
    right_depends, right_slope, right_rest = right
    if not left_depends and not right_depends:
        return free_part(combined(sign, ("value", left_rest), ("value", right_rest)))
    if sign == "*":
        # One of the slopes is that of a free part, 0, so there is no square.
        return (True, left_slope * right_rest + right_slope * left_rest, left_rest * right_rest)
    return (True, total_of(sign, left_slope, right_slope), total_of(sign, left_rest, right_rest))
