"""Points 32, 33 and 34, points 3 and 37 for what the judges tell, and point 2 for verdicts."""

from dutyproof.bench import ends, missed
from dutyproof.comings import due_at, first_wrong, ready
from dutyproof.demand import asked, bends, demand, lets_by_due, spans
from dutyproof.duties import Duty
from dutyproof.errors import HoldsThings, TooMany
from dutyproof.orders import ByComing, ByDue, ByRank
from dutyproof.papers import lets_by, paper
from dutyproof.verdicts import Broken, Kept, Verdict, judge_due, judge_ranks
from dutyproof.works import Work
from helper import (
    GREATEST, NAMES, Case, chance, dense_row, greatest_number, scaled, scaled_row, slowly_full, some_duty, some_row)

SCALE = 10 ** 57 + 1
KEPT = Duty([Work("wash", 10, 3), Work("press", 15, 4, 14, 2), Work("fold", 50, 5, 40, 1)])
HELD = Duty([Work("wash", 12, 4, 12, 3, [("oven", 0, 2)]), Work("press", 90, 9, 80, 0, [("oven", 1, 6)])])
ENDLESS = Duty([Work("wash", 2, 1, 2, 1), Work("press", 2, 1)])


class Classes(Case):
    def test_each_stands_straight_under_verdict(self):
        self.assertEqual((Kept.__bases__, Broken.__bases__), ((Verdict,), (Verdict,)))

    def test_kept_has_its_lines(self):
        verdict = Kept([3, 7])
        self.assertEqual(verdict.lines, [3, 7])
        self.assertIs(verdict.kept(), True)
        self.assertIs(type(verdict.lines), list)

    def test_broken_has_its_row_its_place_and_its_turn(self):
        verdict = Broken([(0, 0, 0, 7), (1, 0, 0, 4)], 1, 9)
        self.assertEqual((verdict.row, verdict.place, verdict.turn), ([(0, 0, 0, 7), (1, 0, 0, 4)], 1, 9))
        self.assertIs(verdict.kept(), False)

    def test_made_by_anybody_they_have_what_is_handed_in(self):
        self.assertEqual(Kept([]).lines, [])
        self.assertEqual(Kept([-3, 0, GREATEST]).lines, [-3, 0, GREATEST])
        self.assertEqual(Kept((1, 2)).lines, (1, 2))
        self.assertIsNone(Kept(None).lines)
        verdict = Broken([None, (7, -1)], 99, -5)
        self.assertEqual((verdict.row, verdict.place, verdict.turn), ([None, (7, -1)], 99, -5))
        verdict = Broken(None, None, "x")
        self.assertEqual((verdict.row, verdict.place, verdict.turn), (None, None, "x"))

    def test_what_is_handed_in_is_copied(self):
        lines, row = [3, 7], [(0, 0, 0, 7)]
        kept, broken = Kept(lines), Broken(row, 0, 5)
        lines.append(9)
        row.clear()
        self.assertEqual((kept.lines, broken.row), ([3, 7], [(0, 0, 0, 7)]))
        self.assertEqual(kept.told(), "kept 3 7")
        kept.lines.clear()
        broken.row.append(1)
        self.assertEqual((lines, row), ([3, 7, 9], []))


class Told(Case):
    def test_kept(self):
        self.assertEqual(Kept([3, 7, 19]).told(), "kept 3 7 19")
        self.assertEqual(Kept([5]).told(), "kept 5")
        self.assertEqual(Kept([]).told(), "kept")
        self.assertEqual(Kept([GREATEST, 0, 1]).told(), "kept " + "9" * 60 + " 0 1")

    def test_broken(self):
        self.assertEqual(Broken([(0, 0, 0, 7), (1, 0, 0, 4)], 1, 9).told(), "broken 1 9")
        self.assertEqual(Broken([], 0, 0).told(), "broken 0 0")
        self.assertEqual(Broken([], 199, GREATEST).told(), "broken 199 " + "9" * 60)

    def test_of_the_judges(self):
        self.assertEqual(judge_ranks(KEPT).told(), "kept 3 7 19")
        self.assertEqual(judge_due(KEPT).told(), "kept 40")
        self.assertEqual(judge_ranks(Duty([])).told(), "kept")
        self.assertEqual(judge_due(Duty([])).told(), "kept 1")
        verdict = judge_ranks(Duty([Work("a", 10, 9, 8)]))
        self.assertEqual(verdict.told(), f"broken {verdict.place} {verdict.turn}")


class JudgeCase(Case):
    def assert_broken(self, order, verdict, most):
        duty = order.duty
        self.assertIs(type(verdict), Broken)
        self.assertIs(verdict.kept(), False)
        self.assert_list(verdict.row, tuple)
        self.assertIsNone(first_wrong(duty, verdict.row))
        self.assertLessEqual(len(verdict.row), most)
        self.assertIn(verdict.place, missed(order, verdict.row))
        self.assertEqual(verdict.turn, due_at(duty, verdict.row[verdict.place]))
        figures = len(str(greatest_number(duty))) + 6
        for coming in verdict.row:
            self.assertLessEqual(max(len(str(number)) for number in coming), figures)

    def assert_ranks(self, duty):
        verdict = judge_ranks(duty)
        self.assertIsInstance(verdict, Verdict)
        if verdict.kept():
            self.assertIs(type(verdict), Kept)
            self.assertEqual(verdict.lines, paper(duty))
            self.assertIs(lets_by(duty, verdict.lines), True)
        else:
            self.assert_broken(ByRank(duty), verdict, 100)
        return verdict.kept()

    def assert_due(self, duty):
        far = spans(duty)[-1]
        overdrawn = [bend for bend in bends(duty, far) if demand(duty, bend) > bend]
        if not overdrawn and asked(duty, far) > far:
            self.assert_refused(TooMany, judge_due, duty)
            return None
        verdict = judge_due(duty)
        if overdrawn:
            self.assert_broken(ByDue(duty), verdict, 200)
            self.assertIsNotNone(slowly_full(duty, verdict.row, verdict.turn))
            # No order whatever keeps it.
            self.assertNotEqual(missed(ByRank(duty), verdict.row), [])
            self.assertNotEqual(missed(ByComing(duty), verdict.row), [])
        else:
            self.assertIs(type(verdict), Kept)
            self.assertEqual(verdict.lines, [far])
            self.assertIs(lets_by_due(duty, far), True)
        return verdict.kept()


class JudgeRanks(JudgeCase):
    def test_kept(self):
        self.assertTrue(self.assert_ranks(KEPT))
        self.assertEqual(judge_ranks(KEPT).lines, [3, 7, 19])

    def test_kept_with_holds(self):
        self.assertTrue(self.assert_ranks(HELD))
        self.assertEqual(judge_ranks(HELD).lines, [8, 17])

    def test_broken(self):
        for duty in (Duty([Work("a", 10, 9, 8)]), Duty([Work("a", 10, 3), Work("b", 12, 9)]), KEPT.longer(2, 16),
                     KEPT.longer(0, 8), KEPT.reordered([2, 1, 0])):
            self.assertFalse(self.assert_ranks(duty))

    def test_broken_by_a_hold_alone(self):
        works = [Work("wash", 12, 4, 8, 1, [("oven", 0, 2)]), Work("press", 90, 9, 80, 0, [("oven", 1, 6)])]
        self.assertFalse(self.assert_ranks(Duty(works)))
        self.assertTrue(self.assert_ranks(Duty([works[0], Work("press", 90, 9, 80, 0, [("oven", 1, 5)])])))

    def test_without_works(self):
        self.assertTrue(self.assert_ranks(Duty([])))
        self.assertEqual(judge_ranks(Duty([])).lines, [])

    def test_broken_at_the_last_of_twelve(self):
        works = [Work(name, 60, 5) for name in NAMES]
        self.assertTrue(self.assert_ranks(Duty(works)))
        self.assertFalse(self.assert_ranks(Duty(works).longer(11, 1)))

    def test_sixty_figures(self):
        duty = Duty([Work("a", 10 ** 58, 10 ** 58 - 1), Work("b", 79 * 10 ** 58, 79)])
        self.assertTrue(self.assert_ranks(duty))
        self.assertFalse(self.assert_ranks(duty.longer(1, 1)))
        self.assertFalse(self.assert_ranks(Duty([Work("a", 5, 1, 5, 5), Work("b", GREATEST, GREATEST, 3)])))

    def test_by_chance(self):
        dice = chance(331)
        told = {True: 0, False: 0}
        for time in range(500):
            duty = some_duty(dice, dice.randint(0, 1) == 1, long=dice.choice([2, 4, 8]))
            told[self.assert_ranks(duty)] += 1
            told[self.assert_ranks(scaled(duty, SCALE))] += 1
        self.assertGreater(min(told.values()), 200)


class JudgeDue(JudgeCase):
    def test_kept(self):
        self.assertTrue(self.assert_due(KEPT))
        self.assertTrue(self.assert_due(Duty([Work("a", 4, 2), Work("b", 6, 3)])))
        self.assertEqual(judge_due(Duty([Work("a", 4, 2), Work("b", 6, 3)])).lines, [12])

    def test_kept_by_the_nearest_due_and_broken_by_ranks(self):
        duty = Duty([Work("a", 4, 2), Work("b", 6, 3)])
        self.assertFalse(self.assert_ranks(duty))
        self.assertTrue(self.assert_due(duty))

    def test_broken(self):
        for duty in (Duty([Work("a", 10, 9, 8)]), Duty([Work("a", 4, 2), Work("b", 6, 4)]),
                     Duty([Work("a", 20, 3, 4), Work("b", 20, 3, 5)]), Duty([Work("a", 20, 1, 6, 6)])):
            self.assertFalse(self.assert_due(duty))

    def test_broken_at_a_bend_of_0_or_below(self):
        for late in (6, 7, 20, 25, 26, 100):
            self.assertFalse(self.assert_due(Duty([Work("a", 20, 1, 6, late), Work("b", 30, 9)])))

    def test_just_kept_and_just_broken(self):
        self.assertFalse(self.assert_due(Duty([Work("a", 20, 3, 4), Work("b", 20, 3, 5)])))
        self.assertTrue(self.assert_due(Duty([Work("a", 20, 3, 4), Work("b", 20, 3, 6)])))

    def test_broken_only_far_on(self):
        duty = Duty([Work("a", 10, 5), Work("b", 14, 7), Work("c", 70, 1, 70)])
        self.assertFalse(self.assert_due(duty))
        self.assertGreater(min(bend for bend in bends(duty, spans(duty)[-1]) if demand(duty, bend) > bend), 60)

    def test_refused_with_too_many(self):
        self.assertIsNone(self.assert_due(ENDLESS))
        self.assert_refused(TooMany, judge_due, ENDLESS)
        self.assert_refused(TooMany, judge_due, scaled(ENDLESS, SCALE))

    def test_a_broken_bend_comes_ahead_of_too_many(self):
        duty = Duty([Work("a", 2, 2, 2, 1), Work("b", 2, 2)])
        self.assertGreater(asked(duty, spans(duty)[-1]), spans(duty)[-1])
        self.assertFalse(self.assert_due(duty))

    def test_refused_where_a_work_has_a_hold(self):
        self.assert_refused(HoldsThings, judge_due, HELD)
        works = [Work("a", 10, 99), Work("b", 10, 99, None, 0, [("ink", 0, 1)])]
        self.assert_refused(HoldsThings, judge_due, Duty(works))
        works = [ENDLESS.work(0), ENDLESS.work(1), Work("z", 500, 2, 1, 0, [("ink", 0, 1)])]
        self.assert_refused(HoldsThings, judge_due, Duty(works))

    def test_without_works(self):
        self.assertTrue(self.assert_due(Duty([])))
        self.assertEqual(judge_due(Duty([])).lines, [1])

    def test_sixty_figures(self):
        duty = scaled(Duty([Work("a", 4, 2), Work("b", 6, 3)]), SCALE)
        self.assertTrue(self.assert_due(duty))
        self.assertEqual(judge_due(duty).lines, [12 * SCALE])
        self.assertFalse(self.assert_due(duty.longer(1, 1)))
        self.assertFalse(self.assert_due(Duty([Work("a", GREATEST, 1, GREATEST, GREATEST)])))
        self.assertTrue(self.assert_due(Duty([Work("a", GREATEST, 1, GREATEST, GREATEST - 1)])))

    def test_by_chance(self):
        dice = chance(332)
        told = {True: 0, False: 0, None: 0}
        for time in range(600):
            duty = some_duty(dice, False, long=dice.choice([2, 4, 8]))
            told[self.assert_due(duty)] += 1
            told[self.assert_due(scaled(duty, SCALE))] += 1
        self.assertGreater(min(told[True], told[False]), 200)

    def test_by_chance_near_the_brim(self):
        dice = chance(333)
        told = {True: 0, False: 0, None: 0}
        for time in range(600):
            gaps = [dice.choice([4, 5, 6, 8, 10, 12, 15]) for k in range(3)]
            works = [Work(NAMES[k], gap, dice.randint(1, gap // 2), None, dice.choice([0, 0, 1]))
                     for k, gap in enumerate(gaps)]
            told[self.assert_due(Duty(works))] += 1
        self.assertGreater(min(told.values()), 5)


class Promise(JudgeCase):
    """Point 3: what is judged to be kept is kept by every row."""

    def test_by_ranks(self):
        dice = chance(32)
        kept = 0
        for time in range(500):
            duty = some_duty(dice, dice.randint(0, 1) == 1, most=4, long=5)
            verdict = judge_ranks(duty)
            if duty.size() and verdict.kept():
                kept += 1
                row = dense_row(dice, duty, 60)
                self.assertEqual(missed(ByRank(duty), row), [])
                for coming, end in zip(row, ends(ByRank(duty), row)):
                    self.assertLessEqual(end, ready(coming) + verdict.lines[coming[0]])
        self.assertGreater(kept, 80)

    def test_by_the_nearest_due(self):
        dice = chance(33)
        kept = 0
        for time in range(400):
            duty = some_duty(dice, False, most=4, long=6)
            far = spans(duty)[-1]
            if duty.size() and lets_by_due(duty, far):
                kept += 1
                self.assertTrue(judge_due(duty).kept())
                for row in (dense_row(dice, duty, 60), some_row(dice, duty)):
                    self.assertEqual(missed(ByDue(duty), row), [])
                    self.assertEqual(missed(ByDue(scaled(duty, SCALE)), scaled_row(row, SCALE)), [])
        self.assertGreater(kept, 80)


class Independence(Case):
    def test_each_list_that_is_told_is_the_asker_s_own(self):
        broken = Duty([Work("a", 10, 9, 8)])
        for judge in (judge_ranks, judge_due):
            told = judge(KEPT)
            before = list(told.lines)
            told.lines.append(7)
            self.assertEqual(judge(KEPT).lines, before)
            told = judge(broken)
            before = list(told.row)
            told.row.clear()
            self.assertEqual(judge(broken).row, before)

    def test_the_same_question_has_the_same_answer(self):
        for time in range(3):
            self.assertEqual(judge_ranks(HELD).told(), "kept 8 17")
            self.assertEqual(judge_due(KEPT).told(), "kept 40")
