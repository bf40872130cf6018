"""Point 15, and point 2 for orders."""

import itertools

from dutyproof.duties import Duty
from dutyproof.errors import HoldsThings
from dutyproof.orders import ByComing, ByDue, ByRank, Order
from dutyproof.works import Work
from helper import GREATEST, Case, chance, goes_first, slow_rank, some_duty, some_row

HELD = Duty([Work("a", 90, 9, None, 0, [("ink", 1, 4)]), Work("b", 90, 9, None, 0, [("oven", 1, 8)]),
             Work("c", 90, 12, None, 5, [("oven", 1, 8), ("ink", 3, 6)]), Work("d", 90, 9)])
PLAIN = Duty([Work("a", 10, 3, 9, 30), Work("b", 10, 3, 5), Work("c", 20, 3, 20, 4)])


class Classes(Case):
    def test_each_stands_straight_under_order(self):
        for kind in (ByRank, ByDue, ByComing):
            self.assertEqual(kind.__bases__, (Order,))

    def test_by_rank_is_made_with_and_without_holds(self):
        for duty in (HELD, PLAIN, Duty([])):
            self.assertIsInstance(ByRank(duty), Order)

    def test_the_other_two_are_refused_where_a_work_has_a_hold(self):
        for kind in (ByDue, ByComing):
            for duty in (PLAIN, Duty([])):
                self.assertIsInstance(kind(duty), Order)
            self.assert_refused(HoldsThings, kind, HELD)
            for at in range(3):
                works = [Work(name, 90, 9) for name in ("a", "b", "c")]
                works[at] = Work(works[at].name, 90, 9, None, 0, [("ink", 1, 2)])
                self.assert_refused(HoldsThings, kind, Duty(works))


class RankOf(Case):
    ROW = [(0, 4, 0, 3), (0, 4, 30, 3), (1, 7, 0, 1), (2, 0, 4, 1)]

    def test_by_ranks(self):
        order = ByRank(HELD)
        self.assertEqual([order.rank_of((2, 7, 3, 12), done) for done in range(12)],
                         [2, 2, 1, 1, 0, 0, 1, 1, 2, 2, 2, 2])
        self.assertEqual([order.rank_of((at, 0, 0, 9), 0) for at in range(4)], [0, 1, 2, 3])

    def test_by_the_nearest_due(self):
        order = ByDue(PLAIN)
        self.assertEqual([order.rank_of(coming, 0) for coming in self.ROW], [13, 13, 12, 20])
        self.assertEqual([order.rank_of((0, 4, 0, 3), done) for done in range(3)], [13] * 3)

    def test_by_the_earliest_coming(self):
        order = ByComing(PLAIN)
        self.assertEqual([order.rank_of(coming, 0) for coming in self.ROW], [4, 4, 7, 0])
        self.assertEqual([order.rank_of((1, 7, 0, 3), done) for done in range(3)], [7] * 3)

    def test_sixty_figures(self):
        duty = Duty([Work("a", GREATEST, GREATEST, GREATEST - 7, GREATEST)])
        coming = (0, GREATEST, GREATEST, GREATEST)
        self.assertEqual(ByDue(duty).rank_of(coming, GREATEST - 1), 2 * GREATEST - 7)
        self.assertEqual(ByComing(duty).rank_of(coming, GREATEST - 1), GREATEST)
        self.assertEqual(ByRank(duty).rank_of(coming, GREATEST - 1), 0)
        held = Duty([Work("b", GREATEST, 1, 5), Work("c", GREATEST, 9, 5, 0, [("ink", 0, 1)]),
                     Work("a", GREATEST, GREATEST, None, 0, [("ink", 9, GREATEST - 1)])])
        dones = (9, 10, GREATEST - 2, GREATEST - 1)
        self.assertEqual([ByRank(held).rank_of((2, 0, 0, GREATEST), done) for done in dones], [2, 1, 1, 2])


class Holds(Case):
    def test_by_ranks(self):
        order = ByRank(HELD)
        self.assertEqual([order.holds((0, 0, 0, 9), done) for done in range(6)],
                         [False, False, True, True, False, False])
        self.assertEqual([order.holds((3, 0, 0, 9), done) for done in range(9)], [False] * 9)
        self.assertEqual([order.holds((2, 0, 0, 12), done) for done in (1, 2, 7, 8)], [False, True, True, False])

    def test_by_the_others_nobody_holds_anything(self):
        for kind in (ByDue, ByComing):
            order = kind(PLAIN)
            for at, done in itertools.product(range(3), range(3)):
                self.assertIs(order.holds((at, 0, 0, 3), done), False)

    def test_a_truth_is_told(self):
        self.assertIs(ByRank(HELD).holds((0, 0, 0, 9), 2), True)
        self.assertIs(ByRank(HELD).holds((0, 0, 0, 9), 1), False)

    def test_it_is_told_by_ranks_for_each_coming_alike(self):
        order = ByRank(HELD)
        for come, late, length in ((0, 0, 4), (50, 5, 12), (GREATEST, 1, 5)):
            self.assertIs(order.holds((2, come, late, length), 3), True)
            self.assertEqual(order.rank_of((2, come, late, length), 3), 1)


class Picks(Case):
    def assert_pick(self, order, row, dones, place):
        for waiting in itertools.permutations(range(len(row))):
            self.assertEqual(order.pick(row, list(waiting), dones), place)

    def test_the_least_rank_goes_first(self):
        self.assert_pick(ByRank(HELD), [(3, 0, 0, 9), (1, 0, 0, 9), (2, 0, 0, 12)], [0, 0, 0], 1)
        # The third holds the ink, of which the ceiling is 0.
        self.assert_pick(ByRank(HELD), [(3, 0, 0, 9), (1, 0, 0, 9), (2, 0, 0, 12)], [0, 0, 4], 2)

    def test_of_those_those_that_hold_something_go_ahead(self):
        # By holding the oven, the third has the rank of the second.
        self.assert_pick(ByRank(HELD), [(3, 0, 0, 9), (1, 0, 0, 9), (2, 0, 0, 12)], [0, 0, 2], 2)
        self.assert_pick(ByRank(HELD), [(3, 0, 0, 9), (1, 0, 0, 9), (2, 0, 0, 12)], [0, 0, 1], 1)
        self.assert_pick(ByRank(HELD), [(1, 0, 0, 9), (1, 90, 0, 9)], [0, 2], 1)

    def test_a_lesser_rank_goes_ahead_of_one_that_holds(self):
        self.assert_pick(ByRank(HELD), [(1, 0, 0, 9), (0, 0, 0, 9)], [4, 0], 1)

    def test_of_those_alike_the_least_place(self):
        self.assert_pick(ByRank(HELD), [(3, 0, 0, 9), (1, 0, 0, 9), (1, 90, 0, 9)], [0, 0, 0], 1)
        self.assert_pick(ByRank(HELD), [(1, 0, 0, 9), (1, 90, 0, 9)], [2, 3], 0)
        self.assert_pick(ByDue(PLAIN), [(2, 0, 0, 1), (1, 4, 0, 1), (0, 0, 0, 1)], [0, 0, 0], 1)
        self.assert_pick(ByDue(PLAIN), [(2, 0, 0, 1), (0, 0, 0, 1), (1, 4, 0, 1)], [0, 0, 0], 1)
        self.assert_pick(ByComing(PLAIN), [(2, 5, 0, 1), (0, 5, 30, 1), (1, 5, 0, 1)], [0, 0, 0], 0)

    def test_by_the_nearest_due_it_is_not_when_it_is_ready(self):
        self.assert_pick(ByDue(PLAIN), [(0, 0, 30, 3), (1, 5, 0, 3)], [0, 0], 0)

    def test_only_those_that_wait(self):
        row = [(0, 0, 0, 9), (1, 0, 0, 9), (3, 0, 0, 9), (2, 0, 0, 12)]
        order = ByRank(HELD)
        self.assertEqual(order.pick(row, [1, 2], [9, 0, 0, 0]), 1)
        self.assertEqual(order.pick(row, [2], [9, 9, 0, 4]), 2)
        self.assertEqual(order.pick(row, [3, 2], [9, 9, 0, 0]), 3)

    def test_sixty_figures(self):
        duty = Duty([Work("a", GREATEST, GREATEST, GREATEST), Work("b", GREATEST, GREATEST, GREATEST - 1)])
        row = [(0, GREATEST - 1, 0, GREATEST), (1, GREATEST, 0, GREATEST)]
        self.assert_pick(ByDue(duty), row, [GREATEST - 1, 0], 0)
        row = [(0, GREATEST, 0, GREATEST), (1, GREATEST, 0, GREATEST)]
        self.assert_pick(ByDue(duty), row, [GREATEST - 1, 0], 1)
        self.assert_pick(ByComing(duty), row, [0, GREATEST - 1], 0)

    def test_by_chance(self):
        dice = chance(151)
        asked = 0
        for time in range(600):
            held = dice.randint(0, 1) == 1
            duty = some_duty(dice, held, long=10)
            row = some_row(dice, duty)
            dones = [dice.randrange(coming[3]) for coming in row]
            waiting = dice.sample(range(len(row)), dice.randint(0, len(row)))
            if not waiting:
                continue
            asked += 1
            self.assertEqual(ByRank(duty).pick(row, waiting, dones), goes_first("ranks", duty, row, waiting, dones))
            for place in waiting:
                told = (ByRank(duty).rank_of(row[place], dones[place]), ByRank(duty).holds(row[place], dones[place]))
                self.assertEqual(told, slow_rank(duty, row[place][0], dones[place]))
            if not held:
                self.assertEqual(ByDue(duty).pick(row, waiting, dones), goes_first("due", duty, row, waiting, dones))
                self.assertEqual(ByComing(duty).pick(row, waiting, dones),
                                 goes_first("coming", duty, row, waiting, dones))
        self.assertGreater(asked, 300)


class Independence(Case):
    def test_what_is_handed_in_is_not_changed(self):
        for order in (ByRank(PLAIN), ByDue(PLAIN), ByComing(PLAIN)):
            row, waiting, dones = [(2, 0, 0, 3), (1, 4, 0, 3), (0, 0, 0, 3)], [2, 0, 1], [1, 0, 2]
            order.pick(row, waiting, dones)
            self.assertEqual((row, waiting, dones),
                             ([(2, 0, 0, 3), (1, 4, 0, 3), (0, 0, 0, 3)], [2, 0, 1], [1, 0, 2]))

    def test_the_same_question_has_the_same_answer(self):
        order = ByRank(HELD)
        row = [(3, 0, 0, 9), (1, 0, 0, 9), (2, 0, 0, 12)]
        for time in range(3):
            self.assertEqual(order.pick(row, [0, 1, 2], [0, 0, 2]), 2)
            self.assertEqual(order.pick(row, [0, 1, 2], [0, 0, 1]), 1)
            self.assertEqual(order.rank_of(row[2], 2), 1)
