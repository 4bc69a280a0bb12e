"""Results of operations: ("value", number) or ("failed", word)."""

from solidnames.values import is_within


def result_of(number):
    return ("value", number) if is_within(number) else ("failed", "range")


def negative(result):
    word, number = result
    return result if word == "failed" else ("value", -number)


def combined(sign, left, right):
    """The result of the operation, of the first failed operand if there is one."""
    if left[0] == "failed":
        return left
    if right[0] == "failed":
        return right
    one, other = left[1], right[1]
    if sign == "//":
        return ("failed", "zero") if other == 0 else result_of(one // other)
    return result_of(total_of(sign, one, other))


def total_of(sign, one, other):
    if sign == "+":
        return one + other
    if sign == "-":
        return one - other
    if sign == "*":
        return one * other
    return min(one, other) if sign == "min" else max(one, other)


def evaluated(code, results):
    """The result of the steps of a formula, from results of all its parameters."""
    stack = []
    for kind, what in code:
        if kind == "integer":
            stack.append(result_of(what))
        elif kind == "parameter":
            stack.append(results[what])
        elif what == "minus":
            stack.append(negative(stack.pop()))
        else:
            right = stack.pop()
            left = stack.pop()
            stack.append(combined(what, left, right))
    return stack[0]
