"""The ops: single reckonings over worths."""

from threereckons.errors import NoOp, NotLet
from threereckons.limits import BOUND

PARTS = {
    "copy": 1,
    "plus": 2,
    "less": 2,
    "times": 2,
    "over": 2,
    "rest": 2,
    "least": 2,
    "most": 2,
    "same": 2,
    "under": 2,
    "pick": 3,
}

# Under a cap worths must come to rest: none of these falls where one of its
# numbers grows.
LET = ("copy", "plus", "least", "most")


def copy_of(first):
    return first


def plus_of(first, second):
    return (first + second) % BOUND


def less_of(first, second):
    return (first - second) % BOUND


def times_of(first, second):
    return (first * second) % BOUND


def over_of(first, second):
    if second == 0:
        return None
    return first // second


def rest_of_two(first, second):
    if second == 0:
        return None
    return first % second


def least_of(first, second):
    return min(first, second)


def most_of(first, second):
    return max(first, second)


def same_of(first, second):
    return 1 if first == second else 0


def under_of(first, second):
    return 1 if first < second else 0


def pick_of(first, second, third):
    return second if first > 0 else third


RECKONINGS = {
    "copy": copy_of,
    "plus": plus_of,
    "less": less_of,
    "times": times_of,
    "over": over_of,
    "rest": rest_of_two,
    "least": least_of,
    "most": most_of,
    "same": same_of,
    "under": under_of,
    "pick": pick_of,
}


def is_op(thing):
    """Whether a thing, made in whatever way, is one of the ops."""
    # Lists can't be looked for in a dict.
    return isinstance(thing, str) and thing in PARTS


def parts_of(op):
    """Of how many numbers an op is."""
    if not is_op(op):
        raise NoOp(op)
    return PARTS[op]


def op_let(op, *, cap=0):
    """Whether an op may stand under a cap; cap 0 is none."""
    if cap == 0:
        return is_op(op)
    return op in LET


def reckoned(op, numbers, *, cap=0):
    """What an op tells of its numbers: a worth, or None."""
    if cap > 0 and not op_let(op, cap=cap):
        raise NotLet(op, cap)
    action = RECKONINGS[op]
    if cap == 0:
        return action(*numbers)
    counted = [min(number, cap) for number in numbers]
    return min(action(*counted), cap)
