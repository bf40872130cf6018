"""Point 5, and point 2 for works."""

import inspect
import itertools
import unittest

from dutyproof import errors
from dutyproof.errors import BadWork, DutyError
from dutyproof.works import Work

GREATEST = 10 ** 60 - 1
OTHER_KINDS = (True, False, 1.0, 2.5, "3", "", b"abc", [3], (3,), {}, {3: 3}, object(), Work, len)
OTHER_REFUSALS = tuple(
    kind for kind in vars(errors).values()
    if isinstance(kind, type) and issubclass(kind, DutyError) and kind not in (DutyError, BadWork))


class WorkCase(unittest.TestCase):
    def assert_refused(self, *given, **named):
        with self.assertRaises(BadWork) as caught:
            Work(*given, **named)
        self.assertIs(type(caught.exception), BadWork)
        self.assertIsInstance(caught.exception, DutyError)
        self.assertIsInstance(caught.exception, ValueError)
        self.assertNotIsInstance(caught.exception, OTHER_REFUSALS)

    def assert_fields(self, work, name, gap, length, due, late, holds):
        self.assertEqual((work.name, work.gap, work.length, work.due, work.late, work.held()),
                         (name, gap, length, due, late, holds))

    def assert_holds(self, holds, length=20):
        self.assertEqual(Work("press", 30, length, None, 0, list(holds)).held(), holds)

    def assert_holds_refused(self, holds, length=20):
        self.assert_refused("press", 30, length, None, 0, holds)


class Ordinary(WorkCase):
    def test_the_arguments_are_those_of_the_interface(self):
        told = [(one.name, one.default) for one in inspect.signature(Work).parameters.values()]
        none = inspect.Parameter.empty
        self.assertEqual(told, [("name", none), ("gap", none), ("length", none),
                                ("due", None), ("late", 0), ("holds", None)])

    def test_all_fields(self):
        holds = [("oven", 1, 4), ("belt", 2, 3)]
        self.assert_fields(Work("press", 30, 7, 25, 2, holds), "press", 30, 7, 25, 2, holds)

    def test_all_fields_by_name(self):
        work = Work(holds=[("ink", 1, 4)], late=3, due=9, length=5, gap=10, name="wash")
        self.assert_fields(work, "wash", 10, 5, 9, 3, [("ink", 1, 4)])

    def test_what_is_left_out(self):
        self.assert_fields(Work("wash", 12, 4), "wash", 12, 4, 12, 0, [])

    def test_none_for_the_due_and_the_holds(self):
        self.assert_fields(Work("wash", 12, 4, None, 1, None), "wash", 12, 4, 12, 1, [])

    def test_the_empty_list_of_holds(self):
        self.assertEqual(Work("wash", 12, 4, 12, 0, []).held(), [])

    def test_the_least_work(self):
        self.assert_fields(Work("a", 1, 1, 1, 0, []), "a", 1, 1, 1, 0, [])

    def test_sixty_figures(self):
        holds = [("ink", GREATEST - 3, GREATEST - 1)]
        self.assert_fields(Work("z", GREATEST, GREATEST, GREATEST, GREATEST, holds),
                           "z", GREATEST, GREATEST, GREATEST, GREATEST, holds)

    def test_no_refusal_for_a_length_above_the_due(self):
        self.assert_fields(Work("wash", 10, 8, 5), "wash", 10, 8, 5, 0, [])

    def test_no_refusal_for_a_length_above_the_gap(self):
        self.assert_fields(Work("wash", 10, 80), "wash", 10, 80, 10, 0, [])

    def test_no_refusal_for_a_lateness_above_the_gap(self):
        self.assert_fields(Work("wash", 10, 3, 5, 11), "wash", 10, 3, 5, 11, [])


class Names(WorkCase):
    def test_one_to_eight_small_letters(self):
        for name in ("a", "z", "m", "ab", "pressing"[:7], "abcdefgh", "zzzzzzzz"):
            with self.subTest(name=name):
                self.assertEqual(Work(name, 5, 1).name, name)

    def test_each_small_letter(self):
        for name in "abcdefghijklmnopqrstuvwxyz":
            self.assertEqual(Work(name, 5, 1).name, name)

    def test_none_and_nine(self):
        self.assert_refused("", 5, 1)
        self.assert_refused("abcdefghi", 5, 1)
        self.assert_refused("a" * 1000, 5, 1)

    def test_other_signs(self):
        for name in ("A", "Press", "pressA", "press1", "1", " press", "press ", "a b", "a\n", "\na", "a\tb", "a_b",
                     "a-b", "a:b", "`", "{", "@", "[", "~", " "):
            with self.subTest(name=name):
                self.assert_refused(name, 5, 1)

    def test_other_kinds(self):
        for name in (None, 5, 0, True, 1.5, b"press", ["press"], ("press",), ["p", "r"], {"press": 1}, object(), str):
            with self.subTest(name=name):
                self.assert_refused(name, 5, 1)


class Numbers(WorkCase):
    def test_the_gap(self):
        self.assertEqual(Work("a", 1, 1).gap, 1)
        for gap in (0, -1, -GREATEST, None) + OTHER_KINDS:
            with self.subTest(gap=gap):
                self.assert_refused("a", gap, 1)
                self.assert_refused("a", gap, 1, 1)

    def test_the_length(self):
        self.assertEqual(Work("a", 5, 1).length, 1)
        for length in (0, -1, -GREATEST, None) + OTHER_KINDS:
            with self.subTest(length=length):
                self.assert_refused("a", 5, length)
                self.assert_refused("a", 5, length, 5, 0, [("ink", 0, 1)])

    def test_the_due_is_from_1_to_the_gap(self):
        for due in (1, 2, 9, 10):
            with self.subTest(due=due):
                self.assertEqual(Work("a", 10, 1, due).due, due)
        for due in (0, -1, 11, GREATEST, -GREATEST) + OTHER_KINDS:
            with self.subTest(due=due):
                self.assert_refused("a", 10, 1, due)

    def test_the_due_beside_a_gap_of_one(self):
        self.assertEqual(Work("a", 1, 1, 1).due, 1)
        self.assert_refused("a", 1, 1, 2)
        self.assert_refused("a", 1, 1, True)

    def test_the_due_beside_a_gap_of_sixty_figures(self):
        self.assertEqual(Work("a", GREATEST - 1, 1, GREATEST - 1).due, GREATEST - 1)
        self.assert_refused("a", GREATEST - 1, 1, GREATEST)

    def test_the_lateness(self):
        for late in (0, 1, 10, 11, GREATEST):
            with self.subTest(late=late):
                self.assertEqual(Work("a", 10, 1, 10, late).late, late)
        for late in (-1, -GREATEST, None) + OTHER_KINDS:
            with self.subTest(late=late):
                self.assert_refused("a", 10, 1, 10, late)


class OneHold(WorkCase):
    def test_its_thing(self):
        for thing in ("a", "z", "ink", "abcdefgh"):
            with self.subTest(thing=thing):
                self.assert_holds([(thing, 1, 4)])
        for thing in ("", "abcdefghi", "Ink", "ink1", "i k", "ink\n", "in:k", None, 1, True, b"ink", ["ink"], ("ink",)):
            with self.subTest(thing=thing):
                self.assert_holds_refused([(thing, 1, 4)])

    def test_a_thing_may_be_called_like_a_work(self):
        self.assert_holds([("press", 1, 4)])

    def test_its_start_is_from_0_on(self):
        self.assert_holds([("ink", 0, 4)])
        for start in (-1, -GREATEST, None) + OTHER_KINDS:
            with self.subTest(start=start):
                self.assert_holds_refused([("ink", start, 4)])

    def test_its_end_is_above_its_start(self):
        self.assert_holds([("ink", 3, 4)])
        for end in (3, 2, 0, -1, None) + OTHER_KINDS:
            with self.subTest(end=end):
                self.assert_holds_refused([("ink", 3, end)])
        self.assert_holds_refused([("ink", 0, True)])
        self.assert_holds_refused([("ink", 0, 0)])

    def test_its_end_is_below_the_length(self):
        self.assert_holds([("ink", 1, 6)], 7)
        self.assert_holds([("ink", 0, 1)], 2)
        self.assert_holds_refused([("ink", 1, 7)], 7)
        self.assert_holds_refused([("ink", 1, 8)], 7)
        self.assert_holds_refused([("ink", 0, 1)], 1)

    def test_it_is_a_tuple_of_three(self):
        wrong = [["ink", 1, 4], (), ("ink",), ("ink", 1), ("ink", 1, 4, 5), (1, 4, "ink"), "ink", "abc", 3, None, True,
                 {"ink": 1, "a": 2, "b": 3}, (("ink", 1, 4),), [("ink", 1, 4)], object()]
        for hold in wrong:
            with self.subTest(hold=hold):
                self.assert_holds_refused([hold])
                self.assert_holds_refused([("oven", 5, 6), hold])
                self.assert_holds_refused([hold, ("oven", 5, 6)])

    def test_the_holds_are_a_list(self):
        wrong = [(), (("ink", 1, 4),), ("ink", 1, 4), "", "ink", 0, 3, False, True, {}, {("ink", 1, 4): 1},
                 {("ink", 1, 4)}, iter([]), object()]
        for holds in wrong:
            with self.subTest(holds=holds):
                self.assert_holds_refused(holds)


class TwoHolds(WorkCase):
    def assert_both(self, one, other):
        self.assert_holds([one, other])
        self.assert_holds([other, one])

    def assert_not_both(self, one, other):
        self.assert_holds_refused([one, other])
        self.assert_holds_refused([other, one])

    def test_apart(self):
        self.assert_both(("ink", 1, 4), ("oven", 6, 9))

    def test_side_by_side(self):
        self.assert_both(("ink", 1, 4), ("oven", 4, 9))

    def test_one_in_the_other(self):
        self.assert_both(("ink", 1, 9), ("oven", 3, 5))

    def test_one_in_the_other_with_the_same_start(self):
        self.assert_both(("ink", 1, 9), ("oven", 1, 5))

    def test_one_in_the_other_with_the_same_end(self):
        self.assert_both(("ink", 1, 9), ("oven", 3, 9))

    def test_the_same_start_and_end(self):
        self.assert_both(("ink", 1, 9), ("oven", 1, 9))

    def test_crosswise(self):
        self.assert_not_both(("ink", 1, 5), ("oven", 3, 9))
        self.assert_not_both(("ink", 1, 5), ("oven", 4, 6))
        self.assert_not_both(("ink", 0, 2), ("oven", 1, 3))

    def test_of_the_same_thing_apart(self):
        self.assert_both(("ink", 1, 4), ("ink", 6, 9))
        self.assert_both(("ink", 1, 4), ("ink", 4, 9))

    def test_of_the_same_thing_not_apart(self):
        self.assert_not_both(("ink", 1, 9), ("ink", 3, 5))
        self.assert_not_both(("ink", 1, 9), ("ink", 1, 5))
        self.assert_not_both(("ink", 1, 9), ("ink", 3, 9))
        self.assert_not_both(("ink", 1, 9), ("ink", 1, 9))
        self.assert_not_both(("ink", 1, 5), ("ink", 3, 9))

    def test_sixty_figures(self):
        half = GREATEST // 2
        holds = [("ink", 0, half), ("oven", half, GREATEST - 1)]
        self.assert_holds(holds, GREATEST)
        self.assert_holds_refused([("ink", 0, half + 1), ("oven", half, GREATEST - 1)], GREATEST)

    def test_every_two_against_the_turns_that_they_have_in_common(self):
        stretches = [(start, end) for start in range(5) for end in range(start + 1, 6)]
        for one, other in itertools.product(stretches, stretches):
            first, second = set(range(*one)), set(range(*other))
            apart = not first & second
            for thing in ("ink", "oven"):
                holds = [("ink",) + one, (thing,) + other]
                if apart or (thing == "oven" and (first <= second or second <= first)):
                    self.assert_holds(holds, 6)
                else:
                    self.assert_holds_refused(holds, 6)


class ManyHolds(WorkCase):
    SIX = [("a", 0, 1), ("b", 1, 2), ("c", 2, 3), ("d", 3, 4), ("e", 4, 5), ("f", 5, 6)]

    def test_six(self):
        self.assert_holds(self.SIX)

    def test_seven(self):
        self.assert_holds_refused(self.SIX + [("g", 6, 7)])
        self.assert_holds_refused(self.SIX + [("g", 0, 10)])

    def test_very_many(self):
        self.assert_holds_refused([("a", 0, 1)] * 1000)

    def test_six_one_in_the_other(self):
        self.assert_holds([(thing, place, 18 - place) for place, thing in enumerate("abcdef")])

    def test_six_with_the_same_start_and_end(self):
        self.assert_holds([(thing, 2, 5) for thing in "abcdef"])

    def test_two_wrong_ones_at_any_places(self):
        for first, second in itertools.combinations(range(6), 2):
            holds = [(thing, 2 * place, 2 * place + 1) for place, thing in enumerate("abcdef")]
            holds[first] = ("ink", 12, 15)
            holds[second] = ("oven", 14, 17)
            with self.subTest(first=first, second=second):
                self.assert_holds_refused(holds)

    def test_one_wrong_one_at_any_place(self):
        for place in range(6):
            holds = list(self.SIX)
            holds[place] = ("ink", 8, 20)
            with self.subTest(place=place):
                self.assert_holds_refused(holds)

    def test_the_order_is_that_in_which_they_were_handed_in(self):
        for holds in itertools.permutations([("oven", 1, 8), ("belt", 2, 3), ("ink", 2, 3), ("belt", 4, 6)]):
            self.assert_holds(list(holds))


class Independence(WorkCase):
    def test_what_is_handed_in_is_not_changed(self):
        holds = [("oven", 1, 4), ("belt", 2, 3)]
        Work("press", 30, 7, 25, 0, holds).held().clear()
        self.assertEqual(holds, [("oven", 1, 4), ("belt", 2, 3)])

    def test_what_is_refused_is_not_changed(self):
        holds = [("oven", 1, 4), ("belt", 2, 6)]
        self.assert_refused("press", 30, 7, 25, 0, holds)
        self.assertEqual(holds, [("oven", 1, 4), ("belt", 2, 6)])

    def test_what_the_asker_does_later_to_the_list_handed_in_changes_nothing(self):
        holds = [("oven", 1, 4)]
        work = Work("press", 30, 7, 25, 0, holds)
        holds.append(("belt", 5, 6))
        self.assertEqual(work.held(), [("oven", 1, 4)])
        holds.clear()
        self.assertEqual(work.held(), [("oven", 1, 4)])

    def test_each_list_told_is_new_and_the_asker_s_own(self):
        for holds in ([("oven", 1, 4)], [], None):
            given = holds if holds is None else list(holds)
            work = Work("press", 30, 7, 25, 0, given)
            told = work.held()
            self.assertIsNot(told, given)
            self.assertIsNot(told, work.held())
            told.append(("belt", 5, 6))
            self.assertEqual(work.held(), holds or [])

    def test_works_without_holds_share_nothing(self):
        first, second = Work("a", 5, 2), Work("b", 5, 2)
        first.held().append(("ink", 0, 1))
        self.assertEqual(second.held(), [])
        self.assertEqual(Work("c", 5, 2).held(), [])

    def test_two_works_of_one_list_share_nothing(self):
        holds = [("oven", 1, 4)]
        first, second = Work("a", 9, 7, None, 0, holds), Work("b", 9, 7, None, 0, holds)
        first.held().clear()
        self.assertEqual(second.held(), [("oven", 1, 4)])

    def test_what_is_told_is_a_list_of_tuples(self):
        told = Work("press", 30, 7, 25, 0, [("oven", 1, 4), ("belt", 2, 3)]).held()
        self.assertIs(type(told), list)
        self.assertEqual([type(hold) for hold in told], [tuple, tuple])

    def test_the_same_question_has_the_same_answer_each_time(self):
        work = Work("press", 30, 7, 25, 2, [("oven", 1, 4)])
        for time in range(3):
            self.assert_fields(work, "press", 30, 7, 25, 2, [("oven", 1, 4)])
        for time in range(3):
            self.assert_refused("press", 30, 7, 31)


if __name__ == "__main__":
    unittest.main()
