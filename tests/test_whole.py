"""Points 3, 18, 23, 28 and 37 over the whole program: every row of small duties, and duties of many kinds by chance."""

import itertools

from dutyproof.answers import answer
from dutyproof.bench import ends, missed, run
from dutyproof.breaking import hardest
from dutyproof.comings import due_at, first_wrong, ready
from dutyproof.demand import lets_by_due
from dutyproof.desk import Desk
from dutyproof.duties import Duty
from dutyproof.errors import NoRanks, TooMany
from dutyproof.fullness import too_full
from dutyproof.orders import ByComing, ByDue, ByRank
from dutyproof.papers import lets_by
from dutyproof.ranks import ranked
from dutyproof.slack import slack
from dutyproof.texts import read_row, show_row, show_work
from dutyproof.things import hold_up
from dutyproof.verdicts import judge_due, judge_ranks
from dutyproof.works import Work
from helper import Case, chance, dense_row, some_duty, some_row

SMALL = [
    Duty([Work("a", 4, 2, 4, 1), Work("b", 6, 2, 6, 0)]),
    Duty([Work("a", 3, 1, 3, 2), Work("b", 5, 2, 4, 0)]),
    Duty([Work("a", 5, 3, 5, 0, [("ink", 0, 2)]), Work("b", 7, 4, 7, 0, [("ink", 0, 3)])]),
    Duty([Work("a", 6, 2, 6, 1, [("ink", 0, 1)]), Work("b", 7, 4, 7, 0, [("ink", 1, 3)])]),
    Duty([Work("a", 2, 1, 1, 4), Work("b", 6, 2, 6, 3)]),
    Duty([Work("a", 6, 2, 5, 0, [("ink", 0, 1)]), Work("b", 6, 1, 6, 1), Work("c", 9, 3, 9, 0, [("ink", 0, 2)])]),
    Duty([Work("a", 6, 3, 6, 0, [("pot", 1, 2)]), Work("b", 8, 3, 8, 0, [("ink", 0, 2)]),
          Work("c", 9, 5, 9, 0, [("ink", 0, 4), ("pot", 1, 3)])]),
]


def has_holds(duty):
    return any(duty.work(at).held() for at in range(duty.size()))


def without_holds(duty):
    works = [duty.work(at) for at in range(duty.size())]
    return Duty([Work(work.name, work.gap, work.length, work.due, work.late) for work in works])


def comings_of(duty, at, last):
    """Every list of at most two comings of one work that come up to a turn; the second, if any, as soon as it may."""
    work = duty.work(at)
    lengths = sorted({1, work.length - 1, work.length} - {0})
    lists = [[]]
    for come, late, length in itertools.product(range(last + 1), range(work.late + 1), lengths):
        lists.append([(at, come, late, length)])
        for later in range(min(work.late, 1) + 1):
            lists.append([(at, come, late, length), (at, come + work.gap, later, work.length)])
    return lists


def every_row(duty, last):
    for parts in itertools.product(*[comings_of(duty, at, last) for at in range(duty.size())]):
        yield [coming for part in parts for coming in part]


class WholeCase(Case):
    def assert_things(self, duty, row, stretches):
        """No thing is held by two at once, by the turns of the run."""
        dones = [0] * len(row)
        for place, begin, until in stretches:
            for turn in range(begin, until):
                held = []
                for other, (at, come, late, length) in enumerate(row):
                    for thing, start, end in duty.work(at).held():
                        begun = dones[other] > start or (dones[other] == start and other == place)
                        if begun and dones[other] < min(end, length):
                            held.append(thing)
                self.assertEqual(len(held), len(set(held)), row)
                dones[place] += 1

    def assert_weaker(self, duty, row, stretches, ended):
        for place, (at, come, late, length) in enumerate(row):
            weaker = sum(max(0, min(until, ended[place]) - max(begin, come + late))
                         for other, begin, until in stretches if row[other][0] > at)
            self.assertLessEqual(weaker, hold_up(duty, at), row)


class EveryRow(WholeCase):
    def test_each_small_duty(self):
        for duty in SMALL:
            with self.subTest(duty=[show_work(duty.work(at)) for at in range(duty.size())]):
                self.assert_duty(duty)

    def assert_duty(self, duty):
        answers = [answer(duty, at) for at in range(duty.size())]
        plain = without_holds(duty)
        kept = self.judged(plain)
        rows = 0
        for row in every_row(duty, 4 if duty.size() == 2 else 1):
            rows += 1
            stretches, ended = run(ByRank(duty), row), ends(ByRank(duty), row)
            if has_holds(duty):
                self.assert_things(duty, row, stretches)
            self.assert_weaker(duty, row, stretches, ended)
            for coming, end in zip(row, ended):
                if answers[coming[0]] is not None:
                    self.assertLessEqual(end, ready(coming) + answers[coming[0]], row)
                    self.assertLessEqual(end, due_at(duty, coming), row)
            late = missed(ByDue(plain), row)
            self.assertEqual(too_full(duty, row) is None, late == [], row)
            if kept:
                self.assertEqual(late, [], row)
            elif late:
                self.assertNotEqual(missed(ByRank(duty), row), [], row)
                self.assertNotEqual(missed(ByComing(plain), row), [], row)
        self.assertGreater(rows, 500)

    def judged(self, plain):
        verdict = judge_due(plain)
        if verdict.kept():
            self.assertIs(lets_by_due(plain, verdict.lines[0]), True)
        else:
            self.assertIn(verdict.place, missed(ByDue(plain), verdict.row))
            self.assertIsNotNone(too_full(plain, verdict.row))
        return verdict.kept()


class EitherThisOrThat(WholeCase):
    """Point 3: the judges tell a paper or a row, and each is true."""

    def test_by_ranks(self):
        dice = chance(34)
        for time in range(300):
            duty = some_duty(dice, dice.randint(0, 1) == 1, most=6, long=dice.choice([2, 3, 5, 9]))
            verdict = judge_ranks(duty)
            if verdict.kept():
                self.assertIs(lets_by(duty, verdict.lines), True)
                for at, line in enumerate(verdict.lines):
                    row, place = hardest(duty, at)
                    self.assertEqual(ends(ByRank(duty), row)[place], ready(row[place]) + line)
                if duty.size():
                    self.assertEqual(missed(ByRank(duty), dense_row(dice, duty, 60)), [])
            else:
                self.assertIsNone(first_wrong(duty, verdict.row))
                self.assertIn(verdict.place, missed(ByRank(duty), verdict.row))

    def test_by_the_nearest_due(self):
        dice = chance(35)
        seen = {"kept": 0, "broken": 0}
        for time in range(300):
            duty = some_duty(dice, False, most=6, long=dice.choice([2, 3, 5, 9]))
            try:
                verdict = judge_due(duty)
            except TooMany:
                continue
            seen[verdict.told().split(" ")[0]] += 1
            if verdict.kept():
                self.assertIs(lets_by_due(duty, verdict.lines[0]), True)
                for row in (some_row(dice, duty), dense_row(dice, duty, 60) if duty.size() else []):
                    self.assertEqual(missed(ByDue(duty), row), [])
                    self.assertIsNone(too_full(duty, row))
            else:
                self.assertIn(verdict.place, missed(ByDue(duty), verdict.row))
                self.assertIsNotNone(too_full(duty, verdict.row))
                for kind in (ByRank, ByComing):
                    self.assertNotEqual(missed(kind(duty), verdict.row), [])
        self.assertGreater(min(seen.values()), 80)

    def test_what_is_kept_by_ranks_without_holds_is_kept_by_the_nearest_due(self):
        dice = chance(36)
        both = 0
        for time in range(400):
            duty = some_duty(dice, False, most=5, long=3)
            if judge_ranks(duty).kept():
                both += 1
                self.assertTrue(judge_due(duty).kept())
        self.assertGreater(both, 80)

    def test_ranks_found_and_slack_are_what_the_judge_says(self):
        dice = chance(37)
        found = 0
        for time in range(300):
            duty = some_duty(dice, dice.randint(0, 1) == 1, most=5, long=4)
            try:
                duty = duty.reordered(ranked(duty))
            except NoRanks as refusal:
                self.assertFalse(judge_ranks(duty).kept())
                self.assertNotEqual(refusal.stuck, [])
                continue
            self.assertTrue(judge_ranks(duty).kept())
            for at in range(duty.size()):
                found += 1
                more = slack(duty, at)
                self.assertTrue(judge_ranks(duty.longer(at, more)).kept())
                self.assertFalse(judge_ranks(duty.longer(at, more + 1)).kept())
        self.assertGreater(found, 150)


class AtTheDesk(WholeCase):
    """The rows that the desk tells, handed back to it."""

    def test_its_breaking_rows_break(self):
        dice = chance(38)
        broken = 0
        for time in range(250):
            duty = some_duty(dice, False, most=4, long=6)
            desk = Desk()
            for at in range(duty.size()):
                desk.say("work " + show_work(duty.work(at)))
            for how in ("ranks", "due"):
                try:
                    told = desk.say("judge " + how)
                except TooMany:
                    continue
                if told.startswith("broken"):
                    broken += 1
                    head, colon, text = told.partition(": ")
                    self.assertIn(head.split(" ")[1], desk.say(f"missed {how} {text}").split(" "))
                    self.assertEqual(show_row(duty, read_row(duty, text)), text)
                    if how == "due":
                        self.assertNotEqual(desk.say("full " + text), "none")
        self.assertGreater(broken, 100)
