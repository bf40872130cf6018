"""Points 30 and 31, the size of numbers by point 33, and point 2 for rows that are told."""

from dutyproof.answers import answer
from dutyproof.bench import ends, missed
from dutyproof.breaking import hardest, packed
from dutyproof.comings import due_at, first_wrong, ready
from dutyproof.demand import bends, crowded, demand, spans
from dutyproof.duties import Duty
from dutyproof.orders import ByRank
from dutyproof.works import Work
from helper import GREATEST, NAMES, Case, chance, greatest_number, scaled, some_duty

SCALE = 10 ** 57 + 1
HELD = Duty([Work("wash", 12, 4, 12, 3, [("oven", 0, 2)]), Work("iron", 40, 3, 30, 100),
             Work("press", 90, 9, 80, 0, [("oven", 1, 6)])])


class BreakingCase(Case):
    def assert_figures(self, duty, row):
        most = len(str(greatest_number(duty))) + 6
        for coming in row:
            for number in coming:
                self.assertLessEqual(len(str(number)), most)

    def assert_hardest(self, duty, at):
        told = hardest(duty, at)
        self.assertIs(type(told), tuple)
        row, place = told
        self.assert_list(row, tuple)
        self.assertIsNone(first_wrong(duty, row))
        self.assertLessEqual(len(row), 100)
        self.assertEqual(row[place][0], at)
        self.assertIn(place, range(len(row)))
        self.assert_figures(duty, row)
        line = answer(duty, at)
        if line is None:
            self.assertIn(place, missed(ByRank(duty), row))
        else:
            self.assertEqual(ends(ByRank(duty), row)[place], ready(row[place]) + line)
            self.assertNotIn(place, missed(ByRank(duty), row))
        return line is None

    def assert_packed(self, duty, span):
        told = packed(duty, span)
        self.assertIs(type(told), tuple)
        row, start = told
        self.assert_list(row, tuple)
        self.assert_whole(start)
        self.assertIsNone(first_wrong(duty, row))
        for coming in row:
            self.assertGreaterEqual(ready(coming), start)
            self.assertLessEqual(due_at(duty, coming), start + span)
        self.assertEqual(sum(coming[3] for coming in row), demand(duty, span))
        self.assert_figures(duty, row)
        return row


class Hardest(BreakingCase):
    def test_one_work(self):
        for length in (1, 7, 8, 9, 20):
            for late in (0, 1, 8, 9, 100):
                self.assert_hardest(Duty([Work("a", 10, length, 8, late)]), 0)

    def test_stronger_works(self):
        duty = Duty([Work("a", 10, 3), Work("b", 15, 4, 14, 2), Work("c", 50, 5, 40, 1)])
        self.assertEqual([self.assert_hardest(duty, at) for at in range(3)], [False] * 3)

    def test_held_up_by_a_weaker_work(self):
        self.assertEqual([answer(HELD, at) for at in range(3)], [8, None, 33])
        for at in range(3):
            self.assert_hardest(HELD, at)
        row, place = hardest(HELD, 0)
        self.assertEqual(ends(ByRank(HELD), row)[place] - ready(row[place]), 8)

    def test_a_weaker_work_whose_hold_is_of_one_turn(self):
        duty = Duty([Work("a", 20, 3, None, 0, [("ink", 0, 1)]), Work("b", 20, 9, None, 0, [("ink", 3, 4)])])
        self.assertFalse(self.assert_hardest(duty, 0))

    def test_stronger_works_that_come_late_and_many_at_once(self):
        duty = Duty([Work("a", 10, 2, 10, 55), Work("b", 100, 5, 60)])
        self.assertEqual([self.assert_hardest(duty, at) for at in range(2)], [True, False])
        duty = Duty([Work("a", 10, 7, 10, 55), Work("b", 100, 5, 60)])
        self.assertEqual([self.assert_hardest(duty, at) for at in range(2)], [True, True])

    def test_a_work_that_is_ready_behind_its_due(self):
        for late in (7, 8, 9, 50):
            duty = Duty([Work("a", 5, 2), Work("b", 20, 1, 8, late)])
            self.assertTrue(self.assert_hardest(duty, 1))

    def test_a_work_behind_a_broken_one(self):
        duty = Duty([Work("a", 50, 9, 8), Work("b", 50, 2)])
        self.assertEqual([self.assert_hardest(duty, at) for at in range(2)], [True, False])

    def test_the_greatest_crowd(self):
        duty = Duty([Work("a", 1, 1, 1, 2), Work("b", 75, 1, 75)])
        self.assertEqual(duty.crowd(), 78)
        self.assertTrue(self.assert_hardest(duty, 1))
        duty = Duty([Work("a", 4, 1, 4, 3), Work("b", 6, 2), Work("c", 150, 30, 149, 1, [("ink", 2, 7)]),
                     Work("d", 151, 9, 150, 0, [("ink", 0, 8)])])
        self.assertEqual(duty.crowd(), 67)
        for at in range(4):
            self.assert_hardest(duty, at)

    def test_the_row_is_short_where_the_lateness_is_great(self):
        for late in (0, 1, 35, 69, 70, 300):
            duty = Duty([Work("a", 1, 1), Work("b", 70, 1, 70, late)])
            self.assertTrue(self.assert_hardest(duty, 1))

    def test_the_greatest_crowd_with_a_hold_up(self):
        duty = Duty([Work("a", 10, 1, 10, 20), Work("b", 740, 300, 739, 0, [("ink", 0, 1)]),
                     Work("c", 740, 90, 740, 0, [("ink", 1, 80)])])
        self.assertEqual(duty.crowd(), 78)
        self.assertFalse(self.assert_hardest(duty, 1))
        self.assertTrue(self.assert_hardest(duty.longer(1, 400), 1))

    def test_sixty_figures(self):
        duty = Duty([Work("a", 10 ** 58, 10 ** 58 - 1), Work("b", 79 * 10 ** 58, 79)])
        self.assertFalse(self.assert_hardest(duty, 1))
        self.assertTrue(self.assert_hardest(duty.longer(1, 1), 1))
        duty = Duty([Work("a", GREATEST, 10 ** 59, None, 7, [("ink", 0, 1)]),
                     Work("b", GREATEST, GREATEST, None, GREATEST, [("ink", 7, 10 ** 59)])])
        self.assertEqual([self.assert_hardest(duty, at) for at in range(2)], [False, True])

    def test_twelve_works(self):
        duty = Duty([Work(name, 60, 4, 55, 5, [("ink", 0, 3)]) for name in NAMES])
        self.assertEqual([self.assert_hardest(duty, at) for at in range(12)], [False] * 12)
        duty = Duty([Work(name, 60, 5, 55, 5, [("ink", 0, 3)]) for name in NAMES])
        self.assertEqual([self.assert_hardest(duty, at) for at in range(12)], [False] * 9 + [True] * 3)

    def test_by_chance(self):
        dice = chance(301)
        told = {True: 0, False: 0}
        for time in range(900):
            duty = some_duty(dice, dice.randint(0, 2) > 0, most=6, long=dice.choice([2, 4, 8, 14]))
            for at in range(duty.size()):
                told[self.assert_hardest(duty, at)] += 1
        self.assertGreater(min(told.values()), 300)

    def test_by_chance_in_sixty_figures(self):
        dice = chance(302)
        for time in range(150):
            duty = scaled(some_duty(dice, dice.randint(0, 2) > 0, most=6, long=dice.choice([2, 4, 8])), SCALE)
            for at in range(duty.size()):
                self.assert_hardest(duty, at)


class Packed(BreakingCase):
    DUTY = Duty([Work("wash", 10, 3, 8), Work("press", 15, 4, 14, 2), Work("fold", 50, 5, 40, 45)])

    def test_each_span(self):
        for span in range(-50, 200):
            self.assert_packed(self.DUTY, span)

    def test_where_nothing_is_due(self):
        self.assertEqual(self.assert_packed(self.DUTY, -6), [])
        self.assertEqual(len(self.assert_packed(self.DUTY, -5)), 1)

    def test_without_works(self):
        for span in (-5, 0, 1, GREATEST):
            self.assertEqual(self.assert_packed(Duty([]), span), [])

    def test_ready_behind_their_due(self):
        duty = Duty([Work("a", 10, 3, 8, 38)])
        self.assertEqual([len(self.assert_packed(duty, span)) for span in (-31, -30, -20, -10, 0, 10)],
                         [0, 1, 2, 3, 4, 5])

    def test_just_as_crowded_as_200(self):
        duty = Duty([Work("a", 10, 1, 3), Work("b", 20, 1, 5, 7)])
        self.assertEqual(crowded(duty, 1330), 200)
        self.assert_packed(duty, 1330)
        one = Duty([Work("a", 10, 1, 1)])
        self.assertEqual(len(self.assert_packed(one, 2000)), 200)

    def test_somewhat_beyond_that_nothing_is_refused(self):
        self.assertEqual(len(self.assert_packed(Duty([Work("a", 10, 1, 1)]), 2001)), 201)

    def test_sixty_figures(self):
        duty = scaled(self.DUTY, SCALE)
        for span in (-6, -5, 0, 8, 12, 27, 28, 45, 200):
            for beside in (-1, 0, 1):
                self.assert_packed(duty, span * SCALE + beside)
        self.assert_packed(duty, -GREATEST)

    def test_by_chance(self):
        dice = chance(311)
        for time in range(300):
            duty = some_duty(dice, dice.randint(0, 1) == 1)
            far = spans(duty)[-1]
            points = bends(duty, far)
            for span in [dice.randint(-40, 60)] + dice.sample(points, min(3, len(points))) + [far]:
                self.assertLessEqual(len(self.assert_packed(duty, span)), 200)


class Independence(BreakingCase):
    def test_each_row_that_is_told_is_the_asker_s_own(self):
        for ask in (lambda: hardest(HELD, 1), lambda: packed(Packed.DUTY, 45), lambda: packed(Duty([]), 4)):
            told = ask()
            before = (list(told[0]), told[1])
            told[0].append(None)
            told[0].reverse()
            self.assertEqual(ask(), before)

    def test_the_duty_stays(self):
        before = [HELD.work(at).held() for at in range(3)]
        for at in range(3):
            hardest(HELD, at)
        packed(HELD, 60)
        self.assertEqual([HELD.work(at).held() for at in range(3)], before)
