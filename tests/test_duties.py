"""Points 6 and 7, and point 2 for duties."""

import itertools

from dutyproof.duties import Duty
from dutyproof.errors import BadDuty, NoName, TooMany
from dutyproof.works import Work
from helper import GREATEST, NAMES, Case, chance, fields, many, shown, some_duty

PRESS = Work("press", 30, 7, 25, 2, [("oven", 1, 4), ("belt", 2, 3)])
WASH = Work("wash", 12, 4)
FOLD = Work("fold", 40, 9, 31, 50, [("oven", 0, 8)])
OTHER_KINDS = (None, True, 0, 3, 1.5, "press", b"press", (), {}, object(), Work, len)


def crowded_by(crowd):
    """One work whose due and lateness together, rounded up by its gap, are the crowd."""
    return Work("ale", 10, 1, 10, 10 * (crowd - 1))


class Made(Case):
    def test_a_work_s_number_is_its_place(self):
        duty = Duty([PRESS, WASH, FOLD])
        self.assertEqual(duty.size(), 3)
        self.assert_works(duty, [PRESS, WASH, FOLD])
        self.assert_works(Duty([FOLD, PRESS, WASH]), [FOLD, PRESS, WASH])

    def test_without_works(self):
        duty = Duty([])
        self.assertEqual((duty.size(), duty.crowd()), (0, 0))
        self.assert_refused(NoName, duty.number_of, "press")

    def test_with_one_work(self):
        self.assert_works(Duty([WASH]), [WASH])

    def test_of_works_of_sixty_figures(self):
        large = Work("z", GREATEST, GREATEST, GREATEST - 1, GREATEST, [("ink", 3, GREATEST - 1)])
        duty = Duty([large, Work("y", GREATEST - 5, 1)])
        self.assertEqual(fields(duty.work(0)), fields(large))
        self.assertEqual(duty.crowd(), 2 + 2)

    def test_what_is_no_list(self):
        for works in OTHER_KINDS + ((PRESS,), PRESS, {PRESS: PRESS}, {PRESS}, iter([PRESS])):
            with self.subTest(works=works):
                self.assert_refused(BadDuty, Duty, works)

    def test_something_in_it_that_is_no_work(self):
        for thing in OTHER_KINDS + ([], [PRESS], (PRESS,), ("press", 30, 7), Duty([])):
            for works in ([thing], [thing, PRESS], [PRESS, thing], [PRESS, thing, WASH]):
                with self.subTest(works=works):
                    self.assert_refused(BadDuty, Duty, works)

    def test_two_works_of_one_name(self):
        twin = Work("press", 99, 1)
        for works in ([PRESS, twin], [PRESS, PRESS], [PRESS, WASH, twin], [WASH, FOLD, PRESS, twin]):
            with self.subTest(works=works):
                self.assert_refused(BadDuty, Duty, works)

    def test_names_that_are_nearly_one(self):
        self.assertEqual(Duty([Work("a", 5, 1), Work("aa", 5, 1), Work("b", 5, 1)]).size(), 3)

    def test_twelve_works_and_thirteen(self):
        for count in (11, 12):
            self.assertEqual(Duty(many(count)).size(), count)
        for count in (13, 14, 30):
            self.assert_refused(TooMany, Duty, many(count))

    def test_bad_duty_comes_ahead_of_too_many(self):
        self.assert_refused(BadDuty, Duty, many(13) + [None])
        self.assert_refused(BadDuty, Duty, [None] * 14)
        self.assert_refused(BadDuty, Duty, many(12) + [Work(NAMES[0], 5, 1)])
        self.assert_refused(BadDuty, Duty, [crowded_by(81), None])
        self.assert_refused(BadDuty, Duty, [crowded_by(81), crowded_by(81)])
        self.assert_refused(BadDuty, Duty, tuple(many(13)))

    def test_thirteen_works_are_too_many_whatever_the_crowd(self):
        self.assert_refused(TooMany, Duty, many(13, GREATEST, 1, GREATEST))


class Crowds(Case):
    def test_79_80_and_81_of_one_work(self):
        for crowd in (1, 79, 80):
            self.assertEqual(Duty([crowded_by(crowd)]).crowd(), crowd)
        for crowd in (81, 82, 1000):
            self.assert_refused(TooMany, Duty, [crowded_by(crowd)])

    def test_just_at_80_and_one_turn_of_lateness_more(self):
        self.assertEqual(Duty([Work("ale", 10, 1, 9, 791)]).crowd(), 80)
        self.assert_refused(TooMany, Duty, [Work("ale", 10, 1, 9, 792)])

    def test_79_80_and_81_of_two_works(self):
        slow = Work("bun", 77, 1, 77)
        for late, crowd in ((0, 78), (1, 79), (2, 80)):
            self.assertEqual(Duty([Work("ale", 1, 1, 1, late), slow]).crowd(), crowd)
            self.assertEqual(Duty([slow, Work("ale", 1, 1, 1, late)]).crowd(), crowd)
        self.assert_refused(TooMany, Duty, [Work("ale", 1, 1, 1, 3), slow])
        self.assert_refused(TooMany, Duty, [slow, Work("ale", 1, 1, 1, 3)])

    def test_by_hand(self):
        # The greatest due is 31: 31 + 2 by 30, 31 by 12, 31 + 50 by 40.
        self.assertEqual(Duty([PRESS, WASH, FOLD]).crowd(), 2 + 3 + 3)
        # It is a due that counts, not a gap.
        self.assertEqual(Duty([Work("ale", 100, 1, 3), Work("bun", 2, 1)]).crowd(), 1 + 2)

    def test_in_any_order(self):
        for works in itertools.permutations([PRESS, WASH, FOLD]):
            self.assertEqual(Duty(list(works)).crowd(), 8)

    def test_sixty_figures(self):
        self.assertEqual(Duty([Work("ale", 10 ** 58, 1, 10 ** 58, 79 * 10 ** 58)]).crowd(), 80)
        self.assert_refused(TooMany, Duty, [Work("ale", 10 ** 58, 1, 10 ** 58, 79 * 10 ** 58 + 1)])
        self.assert_refused(TooMany, Duty, [Work("ale", 1, 1), Work("bun", GREATEST, 1)])
        self.assertEqual(Duty([Work("ale", 10 ** 57, 1), Work("bun", 79 * 10 ** 57, 1)]).crowd(), 80)
        self.assert_refused(TooMany, Duty, [Work("ale", 10 ** 57, 1), Work("bun", 79 * 10 ** 57 + 1, 1)])

    def test_against_counting(self):
        dice = chance(61)
        for time in range(200):
            duty = some_duty(dice)
            works = [duty.work(at) for at in range(duty.size())]
            counted = 0
            for work in works:
                top = max(other.due for other in works) + work.late
                counted += len(range(0, top, work.gap))
            self.assertEqual(duty.crowd(), counted)


class NumberOf(Case):
    def test_each_name(self):
        duty = Duty([PRESS, WASH, FOLD])
        self.assertEqual([duty.number_of(name) for name in ("press", "wash", "fold")], [0, 1, 2])
        for at, work in enumerate(many(12)):
            self.assertEqual(Duty(many(12)).number_of(work.name), at)

    def test_a_name_that_no_work_has(self):
        duty = Duty([PRESS, WASH, FOLD])
        for name in ("", "pres", "presss", "Press", "press ", " press", "oven", "0", "press wash", "washfoldpress" * 9):
            with self.subTest(name=name):
                self.assert_refused(NoName, duty.number_of, name)

    def test_what_is_no_text(self):
        class Alike:
            def __eq__(self, other):
                return True

        duty = Duty([PRESS, WASH, FOLD])
        for name in (None, 0, 1, True, False, 1.0, b"press", ["press"], ("press",), {"press": 0}, PRESS, object(),
                     Alike()):
            with self.subTest(name=name):
                self.assert_refused(NoName, duty.number_of, name)


class Reordered(Case):
    def test_every_order_of_three(self):
        works = [PRESS, WASH, FOLD]
        for places in itertools.permutations(range(3)):
            duty = Duty(works).reordered(list(places))
            self.assert_works(duty, [works[place] for place in places])
            self.assertEqual(duty.crowd(), 8)
            for at, place in enumerate(places):
                self.assertEqual(duty.number_of(works[place].name), at)

    def test_the_strongest_stands_first(self):
        self.assertEqual(Duty([PRESS, WASH, FOLD]).reordered([2, 0, 1]).work(0).name, "fold")

    def test_twelve(self):
        works = many(12)
        self.assert_works(Duty(works).reordered(list(range(11, -1, -1))), works[::-1])

    def test_without_works(self):
        self.assertEqual(Duty([]).reordered([]).size(), 0)
        self.assert_refused(BadDuty, Duty([]).reordered, [0])

    def test_not_each_number_just_once(self):
        duty = Duty([PRESS, WASH, FOLD])
        for places in ([], [0], [0, 1], [1, 2], [0, 1, 1], [0, 1, 2, 2], [0, 1, 2, 3], [0, 1, 3], [0, 1, -1],
                       [-1, -2, -3], [2, 2, 2], [1, 2, 3], [0, 1, 2, 0, 1, 2], [0, 1, GREATEST], [0, 1, 2, -GREATEST]):
            with self.subTest(places=places):
                self.assert_refused(BadDuty, duty.reordered, places)

    def test_something_else_stands_there(self):
        duty = Duty([PRESS, WASH, FOLD])
        for places in ([False, True, 2], [0, True, 2], [0, 1, 2.0], [0.0, 1, 2], [0, 1, "2"], ["fold", "wash", "press"],
                       [None, None, None], [0, 1, None], [0, 1, 2, None], [[0], [1], [2]], [0, 1, (2,)],
                       [PRESS, WASH, FOLD]):
            with self.subTest(places=places):
                self.assert_refused(BadDuty, duty.reordered, places)

    def test_what_is_no_list(self):
        duty = Duty([PRESS, WASH, FOLD])
        for places in OTHER_KINDS + ((0, 1, 2), range(3), {0: 0, 1: 1, 2: 2}, {0, 1, 2}, "012", iter([0, 1, 2])):
            with self.subTest(places=places):
                self.assert_refused(BadDuty, duty.reordered, places)
        self.assert_refused(BadDuty, Duty([]).reordered, ())
        self.assert_refused(BadDuty, Duty([]).reordered, None)


class Longer(Case):
    def test_the_length_alone_is_more(self):
        duty = Duty([PRESS, WASH, FOLD]).longer(1, 5)
        self.assert_works(duty, [PRESS, Work("wash", 12, 9), FOLD])
        duty = Duty([PRESS, WASH, FOLD]).longer(0, 1)
        self.assert_works(duty, [Work("press", 30, 8, 25, 2, [("oven", 1, 4), ("belt", 2, 3)]), WASH, FOLD])
        duty = Duty([PRESS, WASH, FOLD]).longer(2, 1000)
        self.assert_works(duty, [PRESS, WASH, Work("fold", 40, 1009, 31, 50, [("oven", 0, 8)])])

    def test_by_nothing(self):
        duty = Duty([PRESS, WASH, FOLD])
        for at in range(3):
            self.assertEqual(shown(duty.longer(at, 0)), shown(duty))
            self.assertIsNot(duty.longer(at, 0), duty)

    def test_sixty_figures(self):
        self.assertEqual(Duty([WASH]).longer(0, GREATEST - 4).work(0).length, GREATEST)
        large = Work("z", GREATEST, GREATEST - 1, GREATEST, 0, [("ink", 3, GREATEST - 2)])
        self.assertEqual(Duty([large]).longer(0, 1).work(0).length, GREATEST)

    def test_one_and_then_one_more(self):
        duty = Duty([WASH])
        for length in range(5, 20):
            duty = duty.longer(0, 1)
            self.assertEqual(duty.work(0).length, length)


class Independence(Case):
    def test_what_is_handed_in_is_not_changed(self):
        works, places = [PRESS, WASH, FOLD], [2, 0, 1]
        before = [fields(work) for work in works]
        duty = Duty(works)
        duty.reordered(places).longer(0, 7)
        duty.longer(2, 3)
        self.assertEqual(works, [PRESS, WASH, FOLD])
        self.assertEqual([fields(work) for work in works], before)
        self.assertEqual(places, [2, 0, 1])
        wrong = [PRESS, PRESS]
        self.assert_refused(BadDuty, Duty, wrong)
        self.assertEqual(wrong, [PRESS, PRESS])
        wrong = [2, 0]
        self.assert_refused(BadDuty, duty.reordered, wrong)
        self.assertEqual(wrong, [2, 0])

    def test_what_the_asker_does_later_to_a_list_handed_in(self):
        works, places = [PRESS, WASH, FOLD], [2, 0, 1]
        duty = Duty(works)
        other = duty.reordered(places)
        places.clear()
        works.append(Work("more", 5, 1))
        works[0] = FOLD
        self.assert_works(duty, [PRESS, WASH, FOLD])
        self.assertEqual((duty.number_of("press"), duty.crowd()), (0, 8))
        self.assert_refused(NoName, duty.number_of, "more")
        self.assert_works(other, [FOLD, PRESS, WASH])

    def test_the_old_duty_stays(self):
        duty = Duty([PRESS, WASH, FOLD])
        before = shown(duty)
        for new in (duty.reordered([2, 1, 0]), duty.longer(0, 9), duty.reordered([0, 1, 2])):
            self.assertIsNot(new, duty)
            self.assertEqual(shown(duty), before)
            self.assertEqual(duty.number_of("press"), 0)

    def test_a_list_that_is_told_is_the_asker_s_own(self):
        duty = Duty([PRESS, WASH, FOLD])
        duty.work(0).held().clear()
        self.assertEqual(duty.work(0).held(), [("oven", 1, 4), ("belt", 2, 3)])
        longer = duty.longer(0, 1)
        longer.work(0).held().append(("ink", 5, 6))
        self.assertEqual(longer.work(0).held(), duty.work(0).held())

    def test_the_same_question_has_the_same_answer(self):
        duty = Duty([PRESS, WASH, FOLD])
        for time in range(3):
            self.assert_works(duty, [PRESS, WASH, FOLD])
            self.assertEqual((duty.size(), duty.crowd(), duty.number_of("fold")), (3, 8, 2))
            self.assertEqual(shown(duty.reordered([1, 0, 2])), [fields(WASH), fields(PRESS), fields(FOLD)])

    def test_two_duties_of_one_list_share_nothing(self):
        works = [PRESS, WASH]
        first = Duty(works)
        works.reverse()
        second = Duty(works)
        self.assertEqual((first.number_of("press"), second.number_of("press")), (0, 1))
