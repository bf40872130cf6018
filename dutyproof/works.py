"""Works: what comes again to the bench, and the shared things that it holds on its way."""

from dutyproof.errors import BadWork
from dutyproof.wholes import is_whole_from

MOST_LETTERS = 8
MOST_HOLDS = 6

# Where a hold, the tuple (thing, start, end), has its parts.
THING = 0
START = 1
END = 2


def is_name(thing):
    if not isinstance(thing, str) or not 1 <= len(thing) <= MOST_LETTERS:
        return False
    # Not by `islower`, which lets by letters beyond a to z.
    return all(["a" <= sign <= "z" for sign in thing])


def is_hold(hold, length):
    if not isinstance(hold, tuple) or len(hold) != 3 or not is_name(hold[THING]):
        return False
    if not is_whole_from(hold[START], 0):
        return False
    return is_whole_from(hold[END], hold[START] + 1) and hold[END] < length


def lie_apart(one, other):
    return one[END] <= other[START] or other[END] <= one[START]


def lies_in(one, other):
    return other[START] <= one[START] and one[END] <= other[END]


def go_together(one, other):
    if lie_apart(one, other):
        return True
    if one[THING] == other[THING]:
        return False
    return lies_in(one, other) or lies_in(other, one)


def all_go_together(holds):
    for place, hold in enumerate(holds):
        if not all([go_together(hold, other) for other in holds[:place]]):
            return False
    return True


def own_holds(holds, length):
    if holds is None:
        return ()
    if not isinstance(holds, list):
        raise BadWork("the holds are a list")
    if len(holds) > MOST_HOLDS:
        raise BadWork("a work has at most six holds")
    if not all([is_hold(hold, length) for hold in holds]):
        raise BadWork("a hold is a tuple (thing, start, end), with 0 <= start < end < length")
    if not all_go_together(holds):
        raise BadWork("two holds lie apart, or one in the other, and apart where they are of one thing")
    return tuple([(hold[THING], hold[START], hold[END]) for hold in holds])


def own_due(due, gap):
    if due is None:
        return gap
    if not is_whole_from(due, 1) or due > gap:
        raise BadWork("the due is a whole number from 1 to the gap")
    return due


class Work:
    def __init__(self, name, gap, length, due=None, late=0, holds=None):
        if not is_name(name):
            raise BadWork("the name is a text of one to eight small letters")
        if not is_whole_from(gap, 1):
            raise BadWork("the gap is a whole number from 1 on")
        if not is_whole_from(length, 1):
            raise BadWork("the length is a whole number from 1 on")
        if not is_whole_from(late, 0):
            raise BadWork("the lateness is a whole number from 0 on")
        self.name = name
        self.gap = gap
        self.length = length
        self.due = own_due(due, gap)
        self.late = late
        # Not called `holds`: no name is a value here and a method of the orders.
        self.hold_tuples = own_holds(holds, length)

    def held(self):
        return list(self.hold_tuples)
