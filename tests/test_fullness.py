"""Point 37, and points 2 and 10 for it."""

import itertools

from dutyproof.bench import missed
from dutyproof.comings import first_wrong
from dutyproof.duties import Duty
from dutyproof.errors import BadRow, TooMany
from dutyproof.fullness import too_full
from dutyproof.orders import ByComing, ByDue, ByRank
from dutyproof.works import Work
from helper import GREATEST, Case, chance, dense_row, scaled, scaled_row, slowly_full, some_duty, some_row

SCALE = 10 ** 57 + 1
DUTY = Duty([Work("wash", 10, 9, 6), Work("press", 20, 9, 10, 30)])


def without_holds(duty):
    works = [duty.work(at) for at in range(duty.size())]
    return Duty([Work(work.name, work.gap, work.length, work.due, work.late) for work in works])


def some_order_keeps(duty, row):
    """Whether any sharing out of the turns ends each coming in time, by trying them all."""
    windows = [(come + late, come + duty.work(at).due, length) for at, come, late, length in row]
    last = max([due for ready, due, length in windows], default=0)
    states = {tuple(length for ready, due, length in windows)}
    for turn in range(last):
        after = set(states)
        for left in states:
            for place, (ready, due, length) in enumerate(windows):
                if left[place] and ready <= turn < due:
                    after.add(left[:place] + (left[place] - 1,) + left[place + 1:])
        states = after
    return (0,) * len(row) in states


class FullCase(Case):
    def assert_full(self, duty, row):
        told = too_full(duty, row)
        self.assertIs(type(told), tuple)
        begin, until = told
        self.assert_whole(begin)
        self.assert_whole(until)
        lengths = [length for at, come, late, length in row
                   if come + late >= begin and come + duty.work(at).due <= until]
        self.assertNotEqual(lengths, [])
        self.assertGreater(sum(lengths), until - begin)

    def assert_not_full(self, duty, row):
        self.assertIsNone(too_full(duty, row))


class ByHand(FullCase):
    def test_without_comings(self):
        self.assert_not_full(DUTY, [])
        self.assert_not_full(Duty([]), [])

    def test_one_coming_just_full_and_just_too_full(self):
        self.assert_not_full(DUTY, [(0, 4, 0, 6)])
        self.assert_full(DUTY, [(0, 4, 0, 7)])
        self.assertEqual(too_full(DUTY, [(0, 4, 0, 7)]), (4, 10))
        self.assert_not_full(DUTY, [(1, 4, 4, 6)])
        self.assert_full(DUTY, [(1, 4, 5, 6)])

    def test_two_comings_just_full_and_just_too_full(self):
        self.assert_not_full(DUTY, [(0, 0, 0, 6), (1, 0, 0, 4)])
        self.assert_full(DUTY, [(0, 0, 0, 6), (1, 0, 0, 5)])
        self.assert_full(DUTY, [(1, 0, 0, 5), (0, 0, 0, 6)])
        self.assert_not_full(DUTY, [(0, 2, 0, 5), (1, 0, 0, 5)])

    def test_two_that_are_due_at_one_turn(self):
        self.assert_not_full(DUTY, [(0, 4, 0, 5), (1, 0, 2, 3)])
        self.assert_full(DUTY, [(0, 4, 0, 5), (1, 0, 2, 4)])

    def test_only_those_ready_within_count(self):
        self.assert_not_full(DUTY, [(1, 0, 0, 9), (0, 10, 0, 6)])
        self.assert_full(DUTY, [(1, 6, 3, 7), (0, 10, 0, 6)])

    def test_the_second_turn_ahead_of_the_first(self):
        # Ready at 30 and due at 10.
        self.assertEqual(too_full(DUTY, [(1, 0, 30, 1)]), (30, 10))
        self.assertEqual(too_full(DUTY, [(1, 0, 10, 1)]), (10, 10))
        self.assert_full(DUTY, [(1, 0, 9, 2)])
        self.assert_not_full(DUTY, [(1, 0, 9, 1)])
        self.assert_full(DUTY, [(0, 0, 0, 1), (1, 0, 30, 1), (0, 10, 0, 1)])

    def test_it_counts_from_a_later_turn_on_too(self):
        self.assert_full(DUTY, [(0, 0, 0, 1), (0, 10, 0, 7), (0, 20, 0, 1)])

    def test_holds_are_not_looked_at(self):
        held = Duty([Work("wash", 20, 3, 4, 0, [("oven", 0, 2)]), Work("press", 90, 9, 80, 0, [("oven", 1, 6)])])
        row = [(1, 0, 0, 9), (0, 2, 0, 3)]
        self.assertEqual(missed(ByRank(held), row), [1])
        self.assert_not_full(held, row)
        self.assert_full(held.longer(0, 2), [(1, 0, 0, 9), (0, 2, 0, 5)])

    def test_sixty_figures(self):
        duty = Duty([Work("a", GREATEST, GREATEST, GREATEST - 7, GREATEST)])
        self.assert_not_full(duty, [(0, 0, 0, GREATEST - 7)])
        self.assertEqual(too_full(duty, [(0, 0, 0, GREATEST - 6)]), (0, GREATEST - 7))
        self.assertEqual(too_full(duty, [(0, 5, GREATEST, 1)]), (GREATEST + 5, GREATEST - 2))
        self.assert_not_full(scaled(DUTY, SCALE), scaled_row([(0, 0, 0, 6), (1, 0, 0, 4)], SCALE))
        self.assert_full(scaled(DUTY, SCALE),
                         scaled_row([(0, 0, 0, 6)], SCALE) + [(1, 0, 0, 4 * SCALE + 1)])


class AnyRow(FullCase):
    def test_none_for_just_the_rows_that_the_nearest_due_keeps(self):
        dice = chance(371)
        seen = {True: 0, False: 0}
        for time in range(700):
            duty = some_duty(dice, dice.randint(0, 1) == 1, long=dice.choice([2, 4, 8]))
            row = dice.choice([some_row, dense_row])(dice, duty) if duty.size() else []
            self.assertIsNone(first_wrong(duty, row))
            plain = without_holds(duty)
            kept = missed(ByDue(plain), row) == []
            self.assertEqual(slowly_full(duty, row) is None, kept)
            if kept:
                self.assert_not_full(duty, row)
            else:
                self.assert_full(duty, row)
                self.assertNotEqual(missed(ByRank(duty), row), [])
                self.assertNotEqual(missed(ByComing(plain), row), [])
            seen[kept] += 1
        self.assertGreater(min(seen.values()), 200)

    def test_in_sixty_figures(self):
        dice = chance(372)
        seen = {True: 0, False: 0}
        for time in range(200):
            duty = scaled(some_duty(dice, False, long=dice.choice([2, 4])), SCALE)
            row = some_row(dice, duty, 6)
            kept = missed(ByDue(duty), row) == []
            self.assertIs(too_full(duty, row) is None, kept)
            if not kept:
                self.assert_full(duty, row)
            seen[kept] += 1
        self.assertGreater(min(seen.values()), 40)

    def test_no_order_whatever_keeps_a_row_that_is_too_full(self):
        dice = chance(373)
        seen = {True: 0, False: 0}
        for time in range(300):
            works = [Work(name, dice.randint(3, 9), dice.randint(1, 4), dice.randint(1, 3), dice.randint(0, 4))
                     for name in ("a", "b", "c")]
            works = [Work(work.name, work.gap, work.length, dice.randint(work.due, work.gap), work.late)
                     for work in works]
            duty = Duty(works)
            row = some_row(dice, duty, 4)
            if max([coming[1] for coming in row], default=0) > 30:
                continue
            kept = some_order_keeps(duty, row)
            self.assertIs(too_full(duty, row) is None, kept)
            seen[kept] += 1
        self.assertGreater(min(seen.values()), 60)

    def test_in_any_order_of_standing(self):
        rows = [[(0, 0, 0, 6), (1, 0, 0, 4)], [(0, 0, 0, 6), (1, 0, 0, 5)], [(1, 0, 30, 1), (0, 3, 0, 2)]]
        for row in rows:
            told = {too_full(DUTY, list(some)) is None for some in itertools.permutations(row)}
            self.assertEqual(len(told), 1)


class Refusals(FullCase):
    def test_two_hundred_and_one_comings(self):
        row = [(0, 10 * place, 0, 6) for place in range(201)]
        self.assert_not_full(DUTY, row[:200])
        self.assert_full(DUTY, row[:199] + [(0, 1990, 0, 7)])
        self.assert_refused(TooMany, too_full, DUTY, row)
        self.assert_refused(TooMany, too_full, DUTY, [None] * 201)

    def test_a_row_that_is_not_legal(self):
        for place in range(3):
            row = [(0, 0, 0, 6), (0, 10, 0, 7), (0, 20, 0, 6)]
            row[place] = (0, 10 * place, 1, 6)
            self.assertEqual(self.assert_refused(BadRow, too_full, DUTY, row).place, place)
        self.assertEqual(self.assert_refused(BadRow, too_full, Duty([]), [(0, 0, 0, 1)]).place, 0)


class Independence(FullCase):
    def test_what_is_handed_in_is_not_changed(self):
        row = [(1, 6, 3, 7), (0, 10, 0, 6), (1, 26, 0, 1), (0, 20, 0, 6)]
        before = list(row)
        told = [too_full(DUTY, row) for time in range(3)]
        self.assertEqual(row, before)
        self.assertEqual(told, [told[0]] * 3)
