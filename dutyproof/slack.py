"""Slack: by how much a work may grow so that each work still has an answer."""

from dutyproof.answers import comings_in, load
from dutyproof.papers import paper


def roomiest_lines(duty, at):
    # A load grows only where a stronger work has one more coming in the span. So there is most room at the last line
    # ahead of each such step, or at the last line that is in time. All of them are 1 or more where each work has an
    # answer, for then no lateness comes up to its gap.
    last = duty.work(at).due - duty.work(at).late
    lines = [last]
    for work in duty.works[:at]:
        lines.extend([times * work.gap - work.late for times in range(1, comings_in(work, last))])
    return lines


def room(duty, at, other):
    # Each turn that the work grows by counts as often as it comes within the line; within a line of its own it comes
    # just once, for that is in time and the due is not above the gap.
    work = duty.work(at)
    return max([(line - load(duty, other, line)) // comings_in(work, line) for line in roomiest_lines(duty, other)])


def slack(duty, at):
    # It is asked for its refusal: a work without an answer has no room that could be told.
    paper(duty)
    # Stronger works don't feel it: what a weaker work holds, and for how long, stays as it is when it grows.
    return min([room(duty, at, other) for other in range(at, duty.size())])
