"""Point 35, and point 2 for ranks."""

import itertools

from dutyproof.answers import answer
from dutyproof.duties import Duty
from dutyproof.errors import NoRanks, NotKept
from dutyproof.papers import paper
from dutyproof.ranks import ranked
from dutyproof.works import Work
from helper import GREATEST, NAMES, Case, chance, scaled, shown, some_duty

SCALE = 10 ** 57 + 1
KEPT = Duty([Work("wash", 10, 3), Work("press", 15, 4, 14, 2), Work("fold", 50, 5, 40, 1)])


def is_kept(duty):
    return all(answer(duty, at) is not None for at in range(duty.size()))


def is_stuck(duty, members):
    """Whether to none of them a line fits where it is the weakest of them, and all others are weaker than it."""
    others = [at for at in range(duty.size()) if at not in members]
    for at in members:
        stronger = [member for member in members if member != at]
        if answer(duty.reordered(stronger + [at] + others), len(stronger)) is not None:
            return False
    return True


def all_stuck(duty):
    """The greatest such set, found among all sets."""
    for size in range(duty.size(), 0, -1):
        for members in itertools.combinations(range(duty.size()), size):
            if is_stuck(duty, list(members)):
                return list(members)
    return []


class RanksCase(Case):
    def assert_found(self, duty):
        told = ranked(duty)
        self.assert_list(told, int)
        self.assertEqual(sorted(told), list(range(duty.size())))
        self.assertTrue(is_kept(duty.reordered(told)))

    def assert_stuck(self, duty, stuck):
        refusal = self.assert_refused(NoRanks, ranked, duty)
        self.assertIs(type(refusal.stuck), list)
        self.assertEqual(refusal.stuck, stuck)


class Found(RanksCase):
    def test_without_works(self):
        self.assertEqual(ranked(Duty([])), [])

    def test_one_work(self):
        self.assertEqual(ranked(Duty([Work("a", 10, 8, 9, 1)])), [0])

    def test_every_order_handed_in(self):
        for places in itertools.permutations(range(3)):
            duty = KEPT.reordered(list(places))
            self.assert_found(duty)

    def test_the_order_handed_in_does_not_keep_it(self):
        duty = Duty([Work("slow", 90, 20), Work("quick", 10, 3, 5), Work("mid", 30, 5, 20)])
        self.assert_refused(NotKept, paper, duty)
        self.assertEqual(ranked(duty), [1, 2, 0])

    def test_neither_by_the_due_nor_by_the_gap(self):
        # With lateness and holds the nearest due need not be the strongest.
        duty = Duty([Work("a", 10, 2, 9, 0), Work("b", 10, 2, 10, 8)])
        self.assertFalse(is_kept(duty))
        self.assertEqual(ranked(duty), [1, 0])

    def test_with_holds(self):
        duty = Duty([Work("slow", 90, 20, None, 0, [("ink", 1, 4)]), Work("quick", 12, 3, 6, 0, [("ink", 0, 2)]),
                     Work("mid", 30, 5, 20)])
        self.assertFalse(is_kept(duty))
        self.assertEqual(ranked(duty), [1, 2, 0])

    def test_a_hold_that_leaves_one_order_alone(self):
        # Behind slow, quick is not in time; ahead of it, the hold of slow keeps it waiting for 3 turns at most.
        for end, found in ((5, True), (6, False)):
            duty = Duty([Work("slow", 90, 20, None, 0, [("ink", 1, end)]),
                         Work("quick", 12, 3, 6, 0, [("ink", 0, 2)])])
            if found:
                self.assertEqual(ranked(duty), [1, 0])
            else:
                self.assert_stuck(duty, [1])

    def test_twelve_works(self):
        works = [Work(name, 200, 5, 5 * (place + 1)) for place, name in enumerate(NAMES)]
        self.assertEqual(ranked(Duty(works)), list(range(12)))
        self.assertEqual(ranked(Duty(works[::-1])), list(range(11, -1, -1)))
        mixed = [works[(7 * place) % 12] for place in range(12)]
        self.assertEqual([mixed[at].name for at in ranked(Duty(mixed))], NAMES)

    def test_sixty_figures(self):
        duty = Duty([Work("slow", 79 * 10 ** 58, 79), Work("quick", 10 ** 58, 10 ** 58 - 1)])
        self.assertEqual(ranked(duty), [1, 0])
        self.assert_stuck(duty.longer(0, 1), [0, 1])

    def test_a_duty_that_is_kept_as_it_is(self):
        self.assert_found(KEPT)


class Stuck(RanksCase):
    def test_one_work(self):
        self.assert_stuck(Duty([Work("a", 10, 9, 8)]), [0])

    def test_one_of_several(self):
        duty = Duty([Work("a", 90, 1), Work("b", 90, 9, 8), Work("c", 90, 1)])
        self.assert_stuck(duty, [1])
        self.assert_stuck(duty.reordered([1, 0, 2]), [0])
        self.assert_stuck(duty.reordered([2, 0, 1]), [2])

    def test_two_of_several(self):
        duty = Duty([Work("a", 90, 5, 8), Work("b", 90, 1, 90), Work("c", 90, 5, 8), Work("d", 90, 1, 90)])
        self.assert_stuck(duty, [0, 2])
        self.assert_stuck(duty.reordered([3, 2, 1, 0]), [1, 3])

    def test_all(self):
        duty = Duty([Work(name, 90, 2, 23) for name in NAMES])
        self.assert_stuck(duty, list(range(12)))

    def test_they_rise(self):
        duty = Duty([Work(name, 900, 5, 8 if place % 3 else 900) for place, name in enumerate(NAMES)])
        self.assert_stuck(duty, [1, 2, 4, 5, 7, 8, 10, 11])

    def test_sixty_figures(self):
        duty = scaled(Duty([Work("a", 90, 5, 8), Work("b", 90, 1, 90), Work("c", 90, 5, 8)]), SCALE)
        self.assert_stuck(duty, [0, 2])


class AnyDuty(RanksCase):
    def test_against_every_order_and_every_set(self):
        dice = chance(351)
        seen = {"as it is": 0, "in another order": 0, "some stuck": 0, "all stuck": 0}
        for time in range(400):
            duty = some_duty(dice, dice.randint(0, 2) > 0, most=5, long=dice.choice([3, 5, 9]))
            orders = [places for places in itertools.permutations(range(duty.size()))
                      if is_kept(duty.reordered(list(places)))]
            stuck = all_stuck(duty)
            self.assertEqual(orders == [], stuck != [])
            if stuck:
                self.assert_stuck(duty, stuck)
                seen["all stuck" if len(stuck) == duty.size() else "some stuck"] += 1
            else:
                self.assert_found(duty)
                self.assertIn(tuple(ranked(duty)), orders)
                seen["as it is" if is_kept(duty) else "in another order"] += 1
        self.assertGreater(min(seen.values()), 10, seen)


class Independence(RanksCase):
    def test_the_list_that_is_told_is_the_asker_s_own(self):
        told = ranked(KEPT)
        before = list(told)
        told.append(9)
        told.reverse()
        self.assertEqual(ranked(KEPT), before)
        empty = ranked(Duty([]))
        empty.append(1)
        self.assertEqual(ranked(Duty([])), [])

    def test_the_duty_stays(self):
        before = shown(KEPT)
        ranked(KEPT)
        self.assertEqual(shown(KEPT), before)
        duty = Duty([Work("a", 10, 9, 8)])
        first = self.assert_refused(NoRanks, ranked, duty)
        first.stuck.append(7)
        self.assertEqual(self.assert_refused(NoRanks, ranked, duty).stuck, [0])

    def test_the_greatest_number_of_figures(self):
        self.assertEqual(ranked(Duty([Work("a", GREATEST, GREATEST)])), [0])
