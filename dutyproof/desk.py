"""The desk: a duty that is asked and changed by lines of text."""

from dutyproof.bench import FROM, PLACE, UNTIL, missed, run
from dutyproof.breaking import hardest
from dutyproof.duties import Duty
from dutyproof.errors import NoRow
from dutyproof.fullness import too_full
from dutyproof.orders import ByComing, ByDue, ByRank
from dutyproof.ranks import ranked
from dutyproof.slack import slack
from dutyproof.texts import read_row, read_work, show_row, show_work
from dutyproof.verdicts import judge_due, judge_ranks

OK = "ok"
NONE = "none"
RANKS = "ranks"
DUE = "due"
COMING = "coming"


def order_of(duty, word):
    if word == RANKS:
        return ByRank(duty)
    if word == DUE:
        return ByDue(duty)
    return ByComing(duty)


def show_stretch(stretch):
    place = stretch[PLACE]
    begin = stretch[FROM]
    until = stretch[UNTIL]
    return f"{place} {begin}-{until}"


def spaced(numbers):
    return " ".join([str(number) for number in numbers])


def told_verdict(duty, word):
    verdict = judge_ranks(duty) if word == RANKS else judge_due(duty)
    if verdict.kept():
        return verdict.told()
    return verdict.told() + ": " + show_row(duty, verdict.row)


def told_run(duty, word, text):
    # The row's text is read first: its refusals come ahead of those of the order and the run.
    row = read_row(duty, text)
    return "; ".join([show_stretch(stretch) for stretch in run(order_of(duty, word), row)])


def told_missed(duty, word, text):
    row = read_row(duty, text)
    places = missed(order_of(duty, word), row)
    return spaced(places) if len(places) > 0 else NONE


def told_full(duty, text):
    turns = too_full(duty, read_row(duty, text))
    return NONE if turns is None else spaced(turns)


def told_ranks(duty):
    return " ".join([duty.work(at).name for at in ranked(duty)])


def told_slack(duty, name):
    return str(slack(duty, duty.number_of(name)))


def told_hardest(duty, name):
    worst = hardest(duty, duty.number_of(name))
    return str(worst[1]) + ": " + show_row(duty, worst[0])


def told_works(duty):
    return "; ".join([show_work(work) for work in duty.works])


def with_work(duty, text):
    return Duty(list(duty.works) + [read_work(text)])


def without_work(duty, name):
    at = duty.number_of(name)
    return Duty(list(duty.works[:at] + duty.works[at + 1:]))


def in_order(duty, names):
    return duty.reordered([duty.number_of(name) for name in names])


def told_of_row(duty, head, rest):
    # What is told of a row's text, which is all that stands behind its blank; None where the line is none of these.
    if head == "full" and len(rest) > 0:
        return told_full(duty, " ".join(rest))
    if len(rest) < 2 or rest[0] not in (RANKS, DUE, COMING):
        return None
    text = " ".join(rest[1:])
    if head == "run":
        return told_run(duty, rest[0], text)
    if head == "missed":
        return told_missed(duty, rest[0], text)
    return None


def told_of_duty(duty, head, rest):
    # None where the line is none of these.
    if head == "show" and len(rest) == 0:
        return told_works(duty)
    if head == "find" and len(rest) == 0:
        return told_ranks(duty)
    if len(rest) != 1:
        return None
    if head == "judge" and rest[0] in (RANKS, DUE):
        return told_verdict(duty, rest[0])
    if head == "slack":
        return told_slack(duty, rest[0])
    if head == "hardest":
        return told_hardest(duty, rest[0])
    return None


def changed(duty, head, rest):
    # The duty that the line asks for, or None where it asks for no other one.
    if head == "work" and len(rest) > 0:
        return with_work(duty, " ".join(rest))
    if head == "drop" and len(rest) == 1:
        return without_work(duty, rest[0])
    if head == "rank":
        return in_order(duty, rest)
    return None


class Desk:
    def __init__(self):
        self.duty = Duty([])

    def say(self, line):
        if not isinstance(line, str):
            raise NoRow("a desk is told lines of text")
        words = line.split(" ")
        new = changed(self.duty, words[0], words[1:])
        if new is not None:
            self.duty = new
            return OK
        told = told_of_duty(self.duty, words[0], words[1:])
        if told is None:
            told = told_of_row(self.duty, words[0], words[1:])
        if told is None:
            raise NoRow("the line is none of those that a desk is told")
        return told
