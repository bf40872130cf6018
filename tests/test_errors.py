"""The interface's section dutyproof/errors.py, and point 2 for what a refusal is made with."""

import unittest

from dutyproof import errors
from dutyproof.errors import (
    BadDuty, BadRow, BadWork, DutyError, HoldsThings, NoName, NoRanks, NoRow, NoText, NotKept, TooMany)

PLAIN = [BadWork, BadDuty, TooMany, HoldsThings, NoName, NoText, NoRow]


def one_of_each():
    return [made("some words") for made in PLAIN] + [BadRow(3), NotKept(2), NoRanks([0, 1])]


class Classes(unittest.TestCase):
    def test_duty_error_is_straight_under_value_error(self):
        self.assertEqual(DutyError.__bases__, (ValueError,))

    def test_there_are_ten_refusals_each_straight_under_duty_error(self):
        refusals = one_of_each()
        self.assertEqual(len(refusals), 10)
        for refusal in refusals:
            with self.subTest(refusal=refusal):
                self.assertEqual(type(refusal).__bases__, (DutyError,))

    def test_the_classes_bear_the_names_of_the_interface(self):
        names = ["BadWork", "BadDuty", "TooMany", "BadRow", "HoldsThings",
                 "NoName", "NotKept", "NoRanks", "NoText", "NoRow", "DutyError"]
        for name in names:
            with self.subTest(name=name):
                self.assertEqual(getattr(errors, name).__name__, name)
                self.assertEqual(getattr(errors, name).__module__, "dutyproof.errors")

    def test_each_refusal_is_of_its_class_and_of_no_other(self):
        classes = [type(refusal) for refusal in one_of_each()]
        for refusal in one_of_each():
            with self.subTest(refusal=refusal):
                self.assertIsInstance(refusal, DutyError)
                self.assertIsInstance(refusal, ValueError)
                self.assertEqual([kind for kind in classes if isinstance(refusal, kind)], [type(refusal)])

    def test_a_refusal_is_taken_by_each_of_its_names(self):
        for refusal in one_of_each():
            for kind in (type(refusal), DutyError, ValueError):
                with self.subTest(refusal=refusal, kind=kind):
                    with self.assertRaises(kind) as caught:
                        raise refusal
                    self.assertIs(caught.exception, refusal)

    def test_a_refusal_has_words(self):
        for refusal in one_of_each():
            with self.subTest(kind=type(refusal)):
                self.assertNotEqual(str(refusal), "")


class Fields(unittest.TestCase):
    def test_bad_row_has_its_place(self):
        for place in (0, 7, 199, 10 ** 60 - 1):
            with self.subTest(place=place):
                self.assertEqual(BadRow(place).place, place)

    def test_not_kept_has_its_number(self):
        for at in (0, 11):
            with self.subTest(at=at):
                self.assertEqual(NotKept(at).at, at)

    def test_no_ranks_has_its_stuck_ones(self):
        for stuck in ([], [4], [0, 3, 5]):
            with self.subTest(stuck=stuck):
                refusal = NoRanks(stuck)
                self.assertEqual(refusal.stuck, stuck)
                self.assertIs(type(refusal.stuck), list)

    def test_a_field_is_each_refusal_s_own(self):
        first, second = NotKept(1), NotKept(2)
        self.assertEqual((first.at, second.at), (1, 2))
        first, second = BadRow(1), BadRow(2)
        self.assertEqual((first.place, second.place), (1, 2))


class Copies(unittest.TestCase):
    def test_what_the_asker_does_later_changes_no_refusal(self):
        stuck = [0, 2]
        refusal = NoRanks(stuck)
        words = str(refusal)
        stuck.append(5)
        stuck[0] = 9
        self.assertEqual(refusal.stuck, [0, 2])
        self.assertEqual(str(refusal), words)

    def test_nothing_in_a_refusal_is_the_list_handed_in(self):
        stuck = [0, 2]
        refusal = NoRanks(stuck)
        self.assertIsNot(refusal.stuck, stuck)
        self.assertFalse(any(part is stuck for part in refusal.args))

    def test_a_refusal_s_list_is_not_that_of_another_made_from_the_same(self):
        stuck = [0, 2]
        first, second = NoRanks(stuck), NoRanks(stuck)
        first.stuck.append(7)
        self.assertEqual(second.stuck, [0, 2])
        self.assertEqual(stuck, [0, 2])


if __name__ == "__main__":
    unittest.main()
