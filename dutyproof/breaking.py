"""Breaking rows: the row in which a work waits longest by ranks, and the row that fills a span most."""

from dutyproof.answers import comings_in
from dutyproof.demand import dues_in
from dutyproof.things import longest_hold
from dutyproof.works import START


def thronged(duty, at, turn, count):
    # The first comes so early that its lateness makes it ready just at the turn; each other one as soon as it may.
    work = duty.work(at)
    comes = [turn - work.late + times * work.gap for times in range(count)]
    return [(at, come, max(0, turn - come), work.length) for come in comes]


def hardest(duty, at):
    holder = longest_hold(duty, at)
    begun = 0 if holder is None else holder[1][START] + 1
    # At this turn all others are ready, and the holder, alone until then, has just had the first turn of its hold.
    turn = max([work.late for work in duty.works[:at + 1]] + [begun])
    row = []
    if holder is not None:
        row.append((holder[0], turn - begun, 0, duty.work(holder[0]).length))
    # What is ready behind the due is too late to make a difference: done by then it has its answer, else it is late.
    span = duty.work(at).due - duty.work(at).late
    for stronger in range(at):
        row.extend(thronged(duty, stronger, turn, comings_in(duty.work(stronger), span)))
    row.extend(thronged(duty, at, turn, 1))
    return (row, len(row) - 1)


def packed(duty, span):
    start = max([work.late for work in duty.works], default=0)
    row = []
    for at, work in enumerate(duty.works):
        row.extend(thronged(duty, at, start, dues_in(work, span)))
    return (row, start)
