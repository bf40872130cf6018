"""Verdicts: a duty is kept, by a short paper, or broken, by a row."""

from dutyproof.bench import missed
from dutyproof.breaking import hardest, packed
from dutyproof.comings import due_at
from dutyproof.demand import asked, first_overdrawn, spans
from dutyproof.errors import NotKept, TooMany
from dutyproof.orders import ByDue
from dutyproof.papers import paper
from dutyproof.things import refuse_holds


def own_copy(thing):
    return list(thing) if isinstance(thing, list) else thing


def spelled(word, numbers):
    return " ".join([word] + [str(number) for number in numbers])


class Verdict:
    def kept(self):
        raise NotImplementedError("a verdict is Kept or Broken")

    def told(self):
        raise NotImplementedError("a verdict is Kept or Broken")


class Kept(Verdict):
    def __init__(self, lines):
        self.lines = own_copy(lines)

    def kept(self):
        return True

    def told(self):
        return spelled("kept", self.lines)


class Broken(Verdict):
    def __init__(self, row, place, turn):
        self.row = own_copy(row)
        self.place = place
        self.turn = turn

    def kept(self):
        return False

    def told(self):
        return spelled("broken", [self.place, self.turn])


def broken_at(duty, row, place):
    return Broken(row, place, due_at(duty, row[place]))


def judge_ranks(duty):
    try:
        return Kept(paper(duty))
    except NotKept as refusal:
        worst = hardest(duty, refusal.at)
        return broken_at(duty, worst[0], worst[1])


def judge_due(duty):
    refuse_holds(duty)
    far = spans(duty)[-1]
    bend = first_overdrawn(duty, far)
    if bend is not None:
        row = packed(duty, bend)[0]
        # By the nearest due, up to the due of any late coming there is too much that is due by then.
        return broken_at(duty, row, missed(ByDue(duty), row)[0])
    if asked(duty, far) > far:
        raise TooMany("no far is found within which 200 comings at most may be ready")
    return Kept([far])
