"""Sums of demand: whether a duty without holds is kept by the nearest due."""

from dutyproof.answers import comings_in
from dutyproof.errors import TooMany
from dutyproof.things import refuse_holds

MOST_CROWDED = 200


def dues_in(work, span):
    # So many comings of the work can be both ready and due within the span.
    spare = span + work.late - work.due
    return spare // work.gap + 1 if spare >= 0 else 0


def demand(duty, span):
    return sum([dues_in(work, span) * work.length for work in duty.works])


def asked(duty, span):
    return sum([comings_in(work, span) * work.length for work in duty.works])


def crowded(duty, span):
    return sum([comings_in(work, span) for work in duty.works])


def refuse_crowded(duty, far):
    if crowded(duty, far) > MOST_CROWDED:
        raise TooMany("more than 200 comings may be ready within the far")


def bends(duty, far):
    refuse_crowded(duty, far)
    found = []
    for work in duty.works:
        # A bend is not above the far for just as many times as a coming is due within it.
        found.extend([times * work.gap + work.due - work.late for times in range(dues_in(work, far))])
    return sorted(set(found))


def first_overdrawn(duty, far):
    # Between two bends the demand stays as it is, so a span that is asked for more than it has is found at a bend.
    for bend in bends(duty, far):
        if demand(duty, bend) > bend:
            return bend
    return None


def lets_by_due(duty, far):
    refuse_holds(duty)
    if far < 1:
        return False
    refuse_crowded(duty, far)
    return asked(duty, far) <= far and first_overdrawn(duty, far) is None


def spans(duty):
    told = [max([work.due for work in duty.works], default=1)]
    more = asked(duty, told[-1])
    while more > told[-1] and crowded(duty, more) <= MOST_CROWDED:
        told.append(more)
        more = asked(duty, more)
    return told
