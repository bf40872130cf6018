"""Points 11 to 14, and point 2 for what is told of shared things."""

import itertools

from dutyproof.duties import Duty
from dutyproof.things import ceiling, hold_up, holding, rank
from dutyproof.works import Work
from helper import GREATEST, THINGS, Case, chance, slow_ceiling, slow_rank, slow_things, some_duty


def one(holds, length=20):
    return Duty([Work("press", 30, length, None, 0, holds)])


class Ceilings(Case):
    DUTY = Duty([Work("a", 90, 9), Work("b", 90, 9, None, 0, [("ink", 1, 4)]),
                 Work("c", 90, 9, None, 0, [("oven", 1, 4), ("ink", 5, 8)]),
                 Work("d", 90, 9, None, 0, [("belt", 0, 8), ("ink", 2, 3)])])

    def test_the_least_number_of_a_work_that_has_a_hold_of_it(self):
        self.assertEqual([ceiling(self.DUTY, thing) for thing in ("ink", "oven", "belt")], [1, 2, 3])

    def test_none_where_no_work_does(self):
        for thing in ("pot", "in", "inks", "a", "press"):
            self.assertIsNone(ceiling(self.DUTY, thing))
        self.assertIsNone(ceiling(Duty([]), "ink"))
        self.assertIsNone(ceiling(Duty([Work("ink", 9, 2)]), "ink"))

    def test_it_is_of_the_duty(self):
        self.assertEqual([ceiling(self.DUTY.reordered([3, 2, 1, 0]), thing) for thing in ("ink", "oven", "belt")],
                         [0, 1, 0])
        self.assertEqual([ceiling(self.DUTY.reordered([0, 2, 3, 1]), thing) for thing in ("ink", "oven", "belt")],
                         [1, 1, 2])

    def test_the_strongest_of_all(self):
        self.assertEqual(ceiling(one([("ink", 1, 4)]), "ink"), 0)

    def test_a_hold_of_one_turn_counts(self):
        self.assertEqual(ceiling(one([("ink", 1, 2)]), "ink"), 0)

    def test_by_chance(self):
        dice = chance(111)
        for time in range(200):
            duty = some_duty(dice)
            for thing in THINGS + ["pot"]:
                self.assertEqual(ceiling(duty, thing), slow_ceiling(duty, thing))


class Holding(Case):
    def told(self, holds, dones, length=20):
        return [holding(one(holds, length), 0, done) for done in dones]

    def test_the_document_s_own(self):
        self.assertEqual(self.told([("ink", 1, 4)], range(6)), [[], [], ["ink"], ["ink"], [], []])

    def test_from_the_very_first_turn(self):
        self.assertEqual(self.told([("ink", 0, 3)], range(5)), [[], ["ink"], ["ink"], [], []])

    def test_a_hold_of_one_turn_is_never_held_between_turns(self):
        self.assertEqual(self.told([("ink", 2, 3)], range(5)), [[]] * 5)

    def test_a_hold_of_two_turns(self):
        self.assertEqual(self.told([("ink", 2, 4)], range(6)), [[], [], [], ["ink"], [], []])

    def test_one_in_another(self):
        told = self.told([("oven", 1, 8), ("belt", 3, 6)], range(10))
        self.assertEqual(told, [[], [], ["oven"], ["oven"], ["belt", "oven"], ["belt", "oven"], ["oven"], ["oven"],
                                [], []])

    def test_one_in_another_with_the_same_start_or_end(self):
        self.assertEqual(self.told([("oven", 1, 5), ("belt", 1, 3)], range(7)),
                         [[], [], ["belt", "oven"], ["oven"], ["oven"], [], []])
        self.assertEqual(self.told([("oven", 1, 5), ("belt", 3, 5)], range(7)),
                         [[], [], ["oven"], ["oven"], ["belt", "oven"], [], []])

    def test_the_same_start_and_end(self):
        self.assertEqual(self.told([("oven", 1, 3), ("ink", 1, 3), ("belt", 1, 3)], range(5)),
                         [[], [], ["belt", "ink", "oven"], [], []])

    def test_side_by_side(self):
        self.assertEqual(self.told([("oven", 1, 3), ("belt", 3, 6)], range(8)),
                         [[], [], ["oven"], [], ["belt"], ["belt"], [], []])

    def test_of_one_thing(self):
        self.assertEqual(self.told([("ink", 1, 3), ("ink", 3, 5), ("ink", 7, 9)], range(11)),
                         [[], [], ["ink"], [], ["ink"], [], [], [], ["ink"], [], []])

    def test_it_is_sorted_whatever_the_order_of_the_holds(self):
        holds = [("oven", 1, 9), ("ink", 2, 8), ("belt", 3, 7), ("abc", 3, 7)]
        for some in itertools.permutations(holds):
            self.assertEqual(self.told(list(some), [5]), [["abc", "belt", "ink", "oven"]])

    def test_it_is_of_the_work_alone(self):
        duty = Duty([Work("a", 90, 9, None, 0, [("ink", 1, 8)]), Work("b", 90, 9)])
        self.assertEqual((holding(duty, 0, 4), holding(duty, 1, 4)), (["ink"], []))

    def test_sixty_figures(self):
        start, end = 10 ** 59, GREATEST - 1
        dones = [0, start, start + 1, end - 1, end, GREATEST - 1]
        self.assertEqual(self.told([("ink", start, end)], dones, GREATEST), [[], [], ["ink"], ["ink"], [], []])

    def test_by_chance(self):
        dice = chance(121)
        for time in range(200):
            duty = some_duty(dice, long=14)
            for at in range(duty.size()):
                for done in range(duty.work(at).length):
                    self.assertEqual(holding(duty, at, done), slow_things(duty.work(at), done))


class Ranks(Case):
    DUTY = Duty([Work("a", 90, 9, None, 0, [("ink", 1, 4)]), Work("b", 90, 9, None, 0, [("oven", 1, 4)]),
                 Work("c", 90, 9), Work("d", 90, 12, None, 0, [("oven", 1, 8), ("ink", 3, 6), ("pot", 8, 11)])])

    def test_the_least_of_its_number_and_the_ceilings_of_what_it_holds(self):
        self.assertEqual([rank(self.DUTY, 3, done) for done in range(12)], [3, 3, 1, 1, 0, 0, 1, 1, 3, 3, 3, 3])

    def test_its_number_where_it_holds_nothing(self):
        self.assertEqual([rank(self.DUTY, at, 0) for at in range(4)], [0, 1, 2, 3])
        self.assertEqual([rank(self.DUTY, 2, done) for done in range(9)], [2] * 9)

    def test_a_ceiling_of_its_own_does_not_lift_it(self):
        self.assertEqual([rank(self.DUTY, 1, done) for done in range(5)], [1] * 5)
        self.assertEqual([rank(self.DUTY, 0, done) for done in range(5)], [0] * 5)

    def test_the_order_of_the_holds_does_not_matter(self):
        holds = [("oven", 1, 9), ("ink", 1, 9), ("pot", 1, 9)]
        for some in itertools.permutations(holds):
            duty = Duty([Work("a", 90, 9, None, 0, [("pot", 1, 2)]), Work("b", 90, 9, None, 0, [("ink", 1, 2)]),
                         Work("c", 90, 10, None, 0, list(some))])
            self.assertEqual(rank(duty, 2, 5), 0)

    def test_twelve_works(self):
        works = [Work("m" + letter, 90, 9, None, 0, [("ink", 1, 4)]) for letter in "abcdefghijkl"]
        self.assertEqual([rank(Duty(works), at, 2) for at in range(12)], [0] * 12)
        self.assertEqual([rank(Duty(works), at, 4) for at in range(12)], list(range(12)))

    def test_sixty_figures(self):
        duty = Duty([Work("a", GREATEST, 5, None, 0, [("ink", 0, 1)]),
                     Work("b", GREATEST, GREATEST, None, 0, [("ink", 3, GREATEST - 1)])])
        self.assertEqual([rank(duty, 1, done) for done in (3, 4, 10 ** 59, GREATEST - 2, GREATEST - 1)],
                         [1, 0, 0, 0, 1])

    def test_never_above_its_number(self):
        dice = chance(131)
        for time in range(200):
            duty = some_duty(dice, long=14)
            for at in range(duty.size()):
                for done in range(duty.work(at).length):
                    self.assertEqual(rank(duty, at, done), slow_rank(duty, at, done)[0])
                    self.assertLessEqual(rank(duty, at, done), at)


class HoldUps(Case):
    def test_the_greatest_of_weaker_works(self):
        duty = Duty([Work("a", 90, 9, None, 0, [("ink", 1, 9 - 1)]), Work("b", 90, 9),
                     Work("c", 90, 9, None, 0, [("ink", 1, 4), ("oven", 5, 8)]),
                     Work("d", 90, 20, None, 0, [("oven", 1, 8), ("ink", 9, 14)])])
        self.assertEqual([hold_up(duty, at) for at in range(4)], [4, 4, 6, 0])

    def test_a_work_s_own_holds_and_those_of_stronger_ones_do_not_count(self):
        duty = Duty([Work("a", 90, 20, None, 0, [("ink", 1, 19)]), Work("b", 90, 20, None, 0, [("ink", 1, 9)]),
                     Work("c", 90, 20, None, 0, [("ink", 1, 4)])])
        self.assertEqual([hold_up(duty, at) for at in range(3)], [7, 2, 0])

    def test_a_thing_with_a_ceiling_above_the_number_does_not_count(self):
        duty = Duty([Work("a", 90, 9), Work("b", 90, 9, None, 0, [("ink", 1, 2)]),
                     Work("c", 90, 9, None, 0, [("ink", 1, 8)])])
        self.assertEqual([hold_up(duty, at) for at in range(3)], [0, 6, 0])
        self.assertEqual(hold_up(Duty([Work("a", 9, 1), Work("b", 90, 9, None, 0, [("ink", 1, 8)])]), 0), 0)

    def test_a_work_between_is_held_up_too(self):
        duty = Duty([Work("a", 90, 9, None, 0, [("ink", 1, 2)]), Work("b", 90, 9),
                     Work("c", 90, 9, None, 0, [("ink", 1, 8)])])
        self.assertEqual([hold_up(duty, at) for at in range(3)], [6, 6, 0])

    def test_a_hold_of_one_turn_holds_nobody_up(self):
        duty = Duty([Work("a", 90, 9, None, 0, [("ink", 1, 2)]), Work("b", 90, 9, None, 0, [("ink", 3, 4)])])
        self.assertEqual(hold_up(duty, 0), 0)
        duty = Duty([Work("a", 90, 9, None, 0, [("ink", 1, 2)]), Work("b", 90, 9, None, 0, [("ink", 3, 5)])])
        self.assertEqual(hold_up(duty, 0), 1)

    def test_without_holds(self):
        duty = Duty([Work("a", 90, 9), Work("b", 90, 9)])
        self.assertEqual([hold_up(duty, at) for at in range(2)], [0, 0])

    def test_sixty_figures(self):
        duty = Duty([Work("a", GREATEST, 9, None, 0, [("ink", 1, 2)]),
                     Work("b", GREATEST, GREATEST, None, 0, [("ink", 1, 7), ("ink", 10, GREATEST - 1)])])
        self.assertEqual(hold_up(duty, 0), GREATEST - 12)

    def test_by_chance(self):
        dice = chance(141)
        above = 0
        for time in range(300):
            duty = some_duty(dice, long=14)
            for at in range(duty.size()):
                slow = 0
                for weaker in range(at + 1, duty.size()):
                    for thing, start, end in duty.work(weaker).held():
                        if slow_ceiling(duty, thing) <= at:
                            slow = max(slow, end - start - 1)
                self.assertEqual(hold_up(duty, at), slow)
                self.assert_whole(hold_up(duty, at))
                above += slow > 0
        self.assertGreater(above, 100)


class Independence(Case):
    def test_a_list_that_is_told_is_the_asker_s_own(self):
        duty = one([("ink", 1, 9), ("oven", 2, 8)])
        for done in (0, 5):
            told = holding(duty, 0, done)
            self.assert_list(told, str)
            before = list(told)
            self.assertIsNot(told, holding(duty, 0, done))
            told.append("pot")
            told.reverse()
            self.assertEqual(holding(duty, 0, done), before)
            self.assertEqual(duty.work(0).held(), [("ink", 1, 9), ("oven", 2, 8)])

    def test_the_same_question_has_the_same_answer(self):
        duty = Ranks.DUTY
        for time in range(3):
            self.assertEqual(holding(duty, 3, 4), ["ink", "oven"])
            self.assertEqual((rank(duty, 3, 4), ceiling(duty, "oven"), hold_up(duty, 1)), (0, 1, 6))
