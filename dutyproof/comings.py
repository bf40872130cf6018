"""Comings and rows: when a coming is ready and due, and whether a row of comings is legal."""

from dutyproof.errors import BadRow, TooMany
from dutyproof.wholes import is_whole

MOST_COMINGS = 200

# Where a coming, the tuple (at, come, late, length), has its parts.
AT = 0
COME = 1
LATE = 2
LENGTH = 3


def ready(coming):
    return coming[COME] + coming[LATE]


def due_at(duty, coming):
    return coming[COME] + duty.work(coming[AT]).due


def is_coming(duty, thing):
    if not isinstance(thing, tuple) or len(thing) != 4:
        return False
    if not all([is_whole(part) for part in thing]):
        return False
    if not 0 <= thing[AT] < duty.size() or thing[COME] < 0:
        return False
    work = duty.work(thing[AT])
    return 0 <= thing[LATE] <= work.late and 1 <= thing[LENGTH] <= work.length


def first_wrong(duty, row):
    last_come = {}
    for place, coming in enumerate(row):
        if not is_coming(duty, coming):
            return place
        at = coming[AT]
        if at in last_come and coming[COME] - last_come[at] < duty.work(at).gap:
            return place
        last_come[at] = coming[COME]
    return None


def checked(duty, row):
    if len(row) > MOST_COMINGS:
        raise TooMany("a row that is run or looked at has at most two hundred comings")
    wrong = first_wrong(duty, row)
    if wrong is not None:
        raise BadRow(wrong)
