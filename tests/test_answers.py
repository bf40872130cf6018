"""Points 19, 20, 21 and 23, and point 3 for lines."""

from dutyproof.answers import answer, comings_in, fits, load
from dutyproof.bench import ends, missed
from dutyproof.comings import first_wrong, ready
from dutyproof.duties import Duty
from dutyproof.orders import ByRank
from dutyproof.things import hold_up
from dutyproof.works import Work
from helper import GREATEST, NAMES, Case, chance, dense_row, scaled, some_duty

SCALE = 10 ** 57 + 1
DUTY = Duty([Work("wash", 10, 3), Work("press", 15, 4, 14, 2), Work("fold", 50, 5, 40, 1)])


def slow_load(duty, at, span):
    """Point 20, by counting the comings one by one."""
    total = hold_up(duty, at) + duty.work(at).length
    for stronger in range(at):
        work = duty.work(stronger)
        total += work.length * (len(range(0, span + work.late, work.gap)) if span >= 1 else 0)
    return total


def slow_answer(duty, at):
    work = duty.work(at)
    for line in range(1, work.due - work.late + 1):
        if slow_load(duty, at, line) <= line:
            return line
    return None


class ComingsIn(Case):
    def test_by_hand(self):
        work = Work("wash", 10, 3)
        self.assertEqual([comings_in(work, span) for span in (1, 2, 9, 10, 11, 20, 21, 100)],
                         [1, 1, 1, 1, 2, 2, 3, 10])
        work = Work("wash", 10, 3, 10, 4)
        self.assertEqual([comings_in(work, span) for span in (1, 5, 6, 7, 16, 17)], [1, 1, 1, 2, 2, 3])
        work = Work("wash", 10, 3, 10, 25)
        self.assertEqual([comings_in(work, span) for span in (1, 5, 6, 15, 16)], [3, 3, 4, 4, 5])

    def test_none_where_the_span_is_below_1(self):
        for late in (0, 4, 25, GREATEST):
            work = Work("wash", 10, 3, 10, late)
            self.assertEqual([comings_in(work, span) for span in (0, -1, -10, -GREATEST)], [0] * 4)

    def test_the_length_and_the_due_do_not_matter(self):
        self.assertEqual(comings_in(Work("a", 10, 1, 1), 11), comings_in(Work("a", 10, 99, 10), 11))

    def test_sixty_figures(self):
        work = Work("wash", 10 ** 30, 3, 5, 10 ** 31)
        self.assertEqual([comings_in(work, span) for span in (1, 10 ** 30, 10 ** 30 + 1)], [11, 11, 12])
        self.assertEqual(comings_in(work, GREATEST), 10 ** 30 + 10)
        self.assertEqual(comings_in(Work("wash", GREATEST, 1), GREATEST), 1)
        self.assertEqual(comings_in(Work("wash", 1, 1), GREATEST), GREATEST)
        self.assert_whole(comings_in(work, GREATEST))

    def test_no_legal_row_has_more_of_them_and_some_row_has_as_many(self):
        for gap in range(1, 8):
            for late in range(0, 20):
                work = Work("wash", gap, 1, 1, late)
                for span in range(1, 25):
                    # From the turn `late` on: the earliest come that may be ready then, and all behind it.
                    comes = [come for come in range(0, late + span, gap)]
                    self.assertEqual(comings_in(work, span), len(comes))


class Loads(Case):
    def test_by_hand(self):
        self.assertEqual([load(DUTY, 0, span) for span in (-5, 0, 1, 10, 99)], [3] * 5)
        self.assertEqual([load(DUTY, 1, span) for span in (0, 1, 10, 11, 20, 21)], [4, 7, 7, 10, 10, 13])
        self.assertEqual([load(DUTY, 2, span) for span in (-1, 0, 1, 10, 11, 13, 14, 20)],
                         [5, 5, 12, 12, 15, 15, 19, 19])

    def test_how_long_weaker_ones_may_hold_it_up_counts(self):
        held = Duty([Work("a", 50, 3, None, 0, [("ink", 0, 1)]), Work("b", 50, 3),
                     Work("c", 50, 9, None, 0, [("ink", 1, 8)])])
        self.assertEqual([load(held, at, 1) for at in range(3)], [6 + 3, 6 + 3 + 3, 9 + 3 + 3])
        self.assertEqual([load(held, at, 0) for at in range(3)], [6 + 3, 6 + 3, 9])

    def test_sixty_figures(self):
        duty = Duty([Work("a", 10 ** 58, 10 ** 57), Work("b", 79 * 10 ** 58, 10 ** 59)])
        self.assertEqual(load(duty, 1, 10 ** 59), 10 * 10 ** 57 + 10 ** 59)
        self.assertEqual(load(duty, 1, 10 ** 59 + 1), 11 * 10 ** 57 + 10 ** 59)

    def test_by_chance(self):
        dice = chance(201)
        for time in range(150):
            duty = some_duty(dice, dice.randint(0, 1) == 1)
            for at in range(duty.size()):
                for span in (-3, 0, 1, 2, 5, 11, 40, 97):
                    self.assertEqual(load(duty, at, span), slow_load(duty, at, span))
                    self.assert_whole(load(duty, at, span))


class Fits(Case):
    def test_just_the_answer_and_one_less(self):
        self.assertEqual([answer(DUTY, at) for at in range(3)], [3, 7, 19])
        for at, line in enumerate((3, 7, 19)):
            self.assertIs(fits(DUTY, at, line), True)
            self.assertIs(fits(DUTY, at, line - 1), False)

    def test_lines_above_the_least(self):
        self.assertEqual([line for line in range(-3, 20) if fits(DUTY, 0, line)], [3, 4, 5, 6, 7, 8, 9, 10])
        # With 11 and 12 wash comes twice.
        self.assertEqual([line for line in range(-3, 20) if fits(DUTY, 1, line)], [7, 8, 9, 10, 11, 12])

    def test_a_line_above_that_fits_less(self):
        duty = Duty([Work("a", 10, 9), Work("b", 40, 1, 40)])
        self.assertEqual([line for line in range(0, 45) if fits(duty, 1, line)], [10] + [19, 20] + [28, 29, 30]
                         + [37, 38, 39, 40])

    def test_the_line_and_the_lateness_together_are_the_due_or_less(self):
        for late in range(0, 9):
            duty = Duty([Work("a", 10, 3, 8, late)])
            self.assertEqual([line for line in range(0, 12) if fits(duty, 0, line)], list(range(3, 8 - late + 1)))

    def test_a_line_below_1(self):
        for line in (0, -1, -GREATEST):
            self.assertIs(fits(DUTY, 0, line), False)
            self.assertIs(fits(DUTY, 2, line), False)

    def test_sixty_figures(self):
        duty = Duty([Work("a", GREATEST, 10 ** 59, GREATEST, 10 ** 58)])
        last = GREATEST - 10 ** 58
        self.assertEqual([fits(duty, 0, line) for line in (10 ** 59 - 1, 10 ** 59, last, last + 1, GREATEST)],
                         [False, True, True, False, False])


class Answers(Case):
    def test_of_one_work(self):
        self.assertEqual([answer(Duty([Work("a", 10, length, 8)]), 0) for length in (1, 7, 8, 9, 10, 11)],
                         [1, 7, 8, None, None, None])
        self.assertEqual([answer(Duty([Work("a", 10, 3, 8, late)]), 0) for late in (0, 5, 6, 7, 8, 100)],
                         [3, 3, None, None, None, None])

    def test_a_work_s_answer_does_not_hang_on_weaker_ones_that_hold_nothing(self):
        duty = Duty([Work("a", 10, 3), Work("b", 10, 99)])
        self.assertEqual([answer(duty, at) for at in range(2)], [3, None])

    def test_a_work_behind_one_without_an_answer(self):
        duty = Duty([Work("a", 50, 9, 8), Work("b", 50, 2)])
        self.assertEqual([answer(duty, at) for at in range(2)], [None, 11])

    def test_a_bench_that_is_full_to_the_last_turn(self):
        duty = Duty([Work("a", 2, 1), Work("b", 4, 1), Work("c", 8, 2)])
        self.assertEqual([answer(duty, at) for at in range(3)], [1, 2, 8])
        duty = Duty([Work("a", 2, 1), Work("b", 4, 1), Work("c", 8, 3)])
        self.assertEqual([answer(duty, at) for at in range(3)], [1, 2, None])

    def test_a_stronger_work_that_takes_every_turn(self):
        duty = Duty([Work("a", 1, 1), Work("b", 50, 1)])
        self.assertEqual([answer(duty, at) for at in range(2)], [1, None])

    def test_just_in_time_and_just_not(self):
        for due, told in ((11, None), (12, 12), (13, 12)):
            self.assertEqual(answer(Duty([Work("a", 20, 8), Work("b", 20, 4, due)]), 1), told)

    def test_held_up(self):
        works = [Work("a", 50, 3, 9, 0, [("ink", 0, 1)]), Work("b", 50, 9, None, 0, [("ink", 1, 8)])]
        self.assertEqual(answer(Duty(works), 0), 9)
        works[1] = Work("b", 50, 10, None, 0, [("ink", 1, 9)])
        self.assertIsNone(answer(Duty(works), 0))

    def test_sixty_figures(self):
        duty = Duty([Work("a", 10 ** 58, 10 ** 58 - 1), Work("b", 79 * 10 ** 58, 79)])
        self.assertEqual(answer(duty, 1), 79 * 10 ** 58)
        duty = Duty([Work("a", 10 ** 58, 10 ** 58 - 1), Work("b", 79 * 10 ** 58, 80)])
        self.assertIsNone(answer(duty, 1))
        duty = Duty([Work("a", GREATEST, 10 ** 59, None, 0, [("ink", 0, 1)]),
                     Work("b", GREATEST, GREATEST, None, 0, [("ink", 7, 10 ** 59)])])
        self.assertEqual([answer(duty, at) for at in range(2)], [2 * 10 ** 59 - 8, None])

    def test_twelve_works(self):
        duty = Duty([Work(name, 10 ** 60 - 1, 10 ** 57) for name in NAMES])
        self.assertEqual([answer(duty, at) for at in range(12)], [10 ** 57 * (at + 1) for at in range(12)])

    def test_the_same_duty_in_small_and_in_large(self):
        dice = chance(211)
        for time in range(150):
            duty = some_duty(dice, False)
            large = scaled(duty, SCALE)
            for at in range(duty.size()):
                small = answer(duty, at)
                self.assertEqual(answer(large, at), None if small is None else small * SCALE)

    def test_it_is_the_least_line_that_fits(self):
        dice = chance(212)
        told = {True: 0, False: 0}
        for time in range(400):
            duty = some_duty(dice, dice.randint(0, 1) == 1)
            for at in range(duty.size()):
                least = slow_answer(duty, at)
                self.assertEqual(answer(duty, at), least)
                told[least is None] += 1
                for line in range(-1, 45):
                    fit = (line >= 1 and slow_load(duty, at, line) <= line
                           and line + duty.work(at).late <= duty.work(at).due)
                    self.assertIs(fits(duty, at, line), fit)
        self.assertGreater(min(told.values()), 150)

    def test_the_same_question_has_the_same_answer(self):
        self.assertEqual([answer(DUTY, 2) for time in range(3)], [19] * 3)


class WithinTheLine(Case):
    """Point 23: whatever row comes, and whatever becomes of the other works."""

    def assert_within(self, duty, row):
        self.assertIsNone(first_wrong(duty, row))
        order = ByRank(duty)
        ended, late = ends(order, row), missed(order, row)
        looked = 0
        for place, coming in enumerate(row):
            line = answer(duty, coming[0])
            if line is not None:
                self.assertLessEqual(ended[place], ready(coming) + line)
                self.assertNotIn(place, late)
                looked += 1
        return looked, looked > 0 and len(late) > 0

    def test_rows_by_chance(self):
        dice = chance(231)
        looked = beside = 0
        for time in range(600):
            duty = some_duty(dice, dice.randint(0, 2) > 0, long=dice.choice([3, 6, 12]))
            if duty.size() == 0:
                continue
            told = self.assert_within(duty, dense_row(dice, duty))
            looked += told[0]
            beside += told[1]
        self.assertGreater(looked, 2000)
        self.assertGreater(beside, 100)

    def test_rows_of_sixty_figures(self):
        dice = chance(232)
        for time in range(100):
            duty = some_duty(dice, dice.randint(0, 1) == 1, long=8)
            if duty.size():
                row = dense_row(dice, duty)
                large = scaled(duty, SCALE)
                self.assert_within(large, [(at, come * SCALE, late * SCALE, dice.randint(1, length * SCALE))
                                           for at, come, late, length in row])

    def test_a_short_coming_that_ends_amid_a_hold_does_not_put_off_the_next(self):
        duty = Duty([Work("a", 12, 3, None, 9, [("ink", 0, 1)]), Work("b", 30, 9, 30, 0, [("ink", 1, 8)])])
        for length in range(1, 10):
            for late in range(10):
                row = [(1, 0, 0, length), (0, 0, late, 3), (0, 12, 0, 3), (0, 24, 0, 3), (1, 30, 0, 9)]
                self.assert_within(duty, row)
