"""What several tests need: refusals of one class alone, works by chance of a told seed, and the bench turn by turn."""

import random
import unittest

from dutyproof.duties import Duty
from dutyproof.errors import BadWork, DutyError, TooMany
from dutyproof.works import Work

GREATEST = 10 ** 60 - 1
NAMES = ["ale", "bun", "cup", "dye", "egg", "fan", "gin", "hat", "ice", "jug", "keg", "log"]
THINGS = ["ink", "oven", "belt"]


class Case(unittest.TestCase):
    def assert_refused(self, kind, call, *given):
        with self.assertRaises(DutyError) as caught:
            call(*given)
        self.assertIs(type(caught.exception), kind)
        self.assertEqual(kind.__bases__, (DutyError,))
        return caught.exception

    def assert_whole(self, thing):
        self.assertIs(type(thing), int)

    def assert_list(self, thing, kind):
        self.assertIs(type(thing), list)
        self.assertTrue(all(type(part) is kind for part in thing), thing)

    def assert_works(self, duty, works):
        self.assertEqual(shown(duty), [fields(work) for work in works])


def fields(work):
    return (work.name, work.gap, work.length, work.due, work.late, work.held())


def shown(duty):
    return [fields(duty.work(at)) for at in range(duty.size())]


def many(count, gap=1000, length=1, due=1):
    """Works of unlike names."""
    return [Work(NAMES[place] if place < 12 else "m" + "abcdefghijklmnopqrstuvwxyz"[place - 12], gap, length, due)
            for place in range(count)]


def chance(seed):
    return random.Random(seed)


def some_holds(dice, gap, length, most=6):
    """A list of holds that go together, each tried by making a work of them."""
    holds = []
    for time in range(dice.randint(0, most)):
        if length < 2:
            break
        start = dice.randint(0, length - 2)
        tried = holds + [(dice.choice(THINGS), start, dice.randint(start + 1, length - 1))]
        try:
            Work("a", gap, length, None, 0, tried)
        except BadWork:
            continue
        holds = tried
    return holds


def some_work(dice, name, held, scale=1, long=6):
    gap = dice.randint(2, 40) * scale
    length = dice.randint(1, long * scale)
    due = dice.choice([gap, dice.randint(1, gap)])
    late = dice.choice([0, 0, dice.randint(0, 6 * scale), dice.randint(0, 50 * scale)])
    return Work(name, gap, length, due, late, some_holds(dice, gap, length) if held else [])


def some_duty(dice, held=True, most=5, scale=1, long=6):
    while True:
        size = dice.randint(0, most)
        try:
            return Duty([some_work(dice, name, held, scale, long) for name in dice.sample(NAMES, size)])
        except TooMany:
            continue


def some_row(dice, duty, most=12):
    """A legal row, its works in any order of standing."""
    row, last = [], {}
    for time in range(dice.randint(0, most)):
        if duty.size() == 0:
            break
        at = dice.randrange(duty.size())
        work = duty.work(at)
        come = dice.choice([0, dice.randint(0, 2 * work.gap)])
        if at in last:
            come = last[at] + work.gap + dice.choice([0, 0, dice.randint(0, work.gap)])
        last[at] = come
        late = dice.choice([0, work.late, dice.randint(0, work.late)])
        row.append((at, come, late, dice.choice([work.length, dice.randint(1, work.length)])))
    return row


def slow_things(work, done):
    return sorted(set(thing for thing, start, end in work.held() if done in range(start + 1, end)))


def slow_ceiling(duty, thing):
    users = [at for at in range(duty.size()) if thing in [hold[0] for hold in duty.work(at).held()]]
    return min(users) if users else None


def slow_rank(duty, at, done):
    held = slow_things(duty.work(at), done)
    return min([at] + [slow_ceiling(duty, thing) for thing in held]), len(held) > 0


def goes_first(how, duty, row, waiting, dones):
    """The place that goes first, found by point 15 sentence by sentence."""
    told = {}
    for place in waiting:
        at, come, late, length = row[place]
        if how == "ranks":
            told[place] = slow_rank(duty, at, dones[place])
        else:
            told[place] = (come + duty.work(at).due if how == "due" else come), False
    least = min(rank for rank, held in told.values())
    left = [place for place in waiting if told[place][0] == least]
    holders = [place for place in left if told[place][1]]
    return min(holders or left)


def slow_turns(how, duty, row):
    """Who has each turn (a place, or None), from turn 0 on until all comings are done: point 16, turn by turn."""
    dones, turns = [0] * len(row), []
    while any(dones[place] < row[place][3] for place in range(len(row))):
        waiting = [place for place, (at, come, late, length) in enumerate(row)
                   if come + late <= len(turns) and dones[place] < length]
        if waiting:
            place = goes_first(how, duty, row, waiting, dones)
            dones[place] += 1
            turns.append(place)
        else:
            turns.append(None)
    return turns


def slow_stretches(turns):
    """The same turns as stretches, each as long as can be."""
    told = []
    for turn, place in enumerate(turns):
        if place is None:
            continue
        if told and told[-1][0] == place and told[-1][2] == turn:
            told[-1] = (place, told[-1][1], turn + 1)
        else:
            told.append((place, turn, turn + 1))
    return told


def scaled(duty, by):
    """The duty with each of its numbers so many times as large."""
    works = [duty.work(at) for at in range(duty.size())]
    return Duty([Work(work.name, work.gap * by, work.length * by, work.due * by, work.late * by,
                      [(thing, start * by, end * by) for thing, start, end in work.held()]) for work in works])


def scaled_row(row, by):
    return [(at, come * by, late * by, length * by) for at, come, late, length in row]


def dense_row(dice, duty, most=40):
    """A legal row as full as can be: each work comes again and again, from some turn near the others on."""
    row = []
    about = max([duty.work(at).late for at in range(duty.size())] + [0]) + dice.randint(0, 9)
    for at in range(duty.size()):
        work = duty.work(at)
        come = max(0, about - work.late + dice.choice([0, 0, dice.randint(-6, 6)]))
        for time in range(dice.randint(0, 1 + most // duty.size())):
            late = min(work.late, max(0, about - come))
            row.append((at, come, dice.choice([late, late, dice.randint(0, work.late)]),
                        dice.choice([work.length] * 4 + [dice.randint(1, work.length)])))
            come += work.gap + dice.choice([0] * 5 + [dice.randint(0, work.gap)])
    return row[:200]


def greatest_number(duty):
    """The greatest number of a duty's works; 0 where there is none."""
    numbers = [0]
    for at in range(duty.size()):
        work = duty.work(at)
        numbers += [work.gap, work.length, work.due, work.late]
        numbers += [number for thing, start, end in work.held() for number in (start, end)]
    return max(numbers)


def slowly_full(duty, row, until=None):
    """Some (from, until) from and until which a row is too full, or None; until a told turn, if one is told."""
    told = [(come + late, come + duty.work(at).due, length) for at, come, late, length in row]
    for end in sorted(set(due for ready, due, length in told)):
        if until is not None and end != until:
            continue
        for begin in sorted(set(ready for ready, due, length in told)):
            lengths = [length for ready, due, length in told if ready >= begin and due <= end]
            if lengths and sum(lengths) > end - begin:
                return begin, end
    return None
