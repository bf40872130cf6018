"""Answers: how long, at most, a coming may wait for its end behind the turn at which it is ready, by ranks."""

from dutyproof.things import hold_up
from dutyproof.wholes import rounds_up


def comings_in(work, span):
    return rounds_up(span + work.late, work.gap) if span >= 1 else 0


def load(duty, at, span):
    stronger = [duty.work(other) for other in range(at)]
    asked_ahead = sum([comings_in(work, span) * work.length for work in stronger])
    return hold_up(duty, at) + duty.work(at).length + asked_ahead


def in_time(work, line):
    return line + work.late <= work.due


def fits(duty, at, line):
    return line >= 1 and load(duty, at, line) <= line and in_time(duty.work(at), line)


def answer(duty, at):
    # A load never falls as its span grows. So no line below the load of a line that is itself not above the answer
    # can fit: each step goes straight to that load, past no line that fits, and takes one more coming in at least.
    line = 1
    while in_time(duty.work(at), line):
        least = load(duty, at, line)
        if least <= line:
            return line
        line = least
    return None
