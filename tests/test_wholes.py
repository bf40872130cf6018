"""Point 2 for what is a whole number, and point 4."""

import unittest

from dutyproof.wholes import is_whole, is_whole_from, rounds_up

GREATEST = 10 ** 60 - 1


class IsWhole(unittest.TestCase):
    def test_ints_are_whole(self):
        for thing in (0, 1, -1, 7, -300, GREATEST, -GREATEST):
            with self.subTest(thing=thing):
                self.assertIs(is_whole(thing), True)

    def test_truths_are_not(self):
        self.assertIs(is_whole(True), False)
        self.assertIs(is_whole(False), False)

    def test_nothing_else_is(self):
        for thing in (None, 1.0, 0.0, float("nan"), 2j, "1", "", b"1", [], [1], (1,), {}, {1: 1}, {1}, object(), int,
                      len, NotImplemented, Ellipsis, range(3)):
            with self.subTest(thing=thing):
                self.assertIs(is_whole(thing), False)


class IsWholeFrom(unittest.TestCase):
    def test_the_least_is_in(self):
        self.assertEqual([is_whole_from(thing, 1) for thing in (-5, 0, 1, 2)], [False, False, True, True])

    def test_other_kinds_are_out(self):
        for thing in (True, None, "3", 3.0, [3]):
            with self.subTest(thing=thing):
                self.assertIs(is_whole_from(thing, 0), False)


class RoundsUp(unittest.TestCase):
    def test_the_document_s_own(self):
        self.assertEqual(rounds_up(7, 3), 3)
        self.assertEqual(rounds_up(6, 3), 2)
        self.assertEqual(rounds_up(-7, 3), -2)

    def test_by_hand(self):
        rows = [(0, 1, 0), (0, 9, 0), (1, 9, 1), (9, 9, 1), (10, 9, 2), (-1, 9, 0), (-8, 9, 0), (-9, 9, -1),
                (-10, 9, -1), (-18, 9, -2), (5, 1, 5), (-5, 1, -5), (-6, 3, -2), (8, 3, 3), (-8, 3, -2)]
        for top, bottom, answer in rows:
            with self.subTest(top=top, bottom=bottom):
                self.assertEqual(rounds_up(top, bottom), answer)

    def assert_least(self, top, bottom):
        answer = rounds_up(top, bottom)
        self.assertIs(type(answer), int)
        self.assertGreaterEqual(answer * bottom, top)
        self.assertLess((answer - 1) * bottom, top)

    def test_it_is_the_least_that_is_not_less(self):
        for top in range(-60, 61):
            for bottom in range(1, 20):
                self.assert_least(top, bottom)

    def test_sixty_figures(self):
        tops = [GREATEST, GREATEST - 1, 10 ** 59, 10 ** 59 + 1, 123456789 * 10 ** 51 + 1, 3 ** 125]
        bottoms = [1, 2, 3, 7, 10 ** 17 + 3, 10 ** 30, 10 ** 59, GREATEST - 1, GREATEST]
        for top in tops:
            for bottom in bottoms:
                with self.subTest(top=top, bottom=bottom):
                    self.assert_least(top, bottom)
                    self.assert_least(-top, bottom)

    def test_sixty_figures_by_hand(self):
        self.assertEqual(rounds_up(GREATEST, 10 ** 30), 10 ** 30)
        self.assertEqual(rounds_up(10 ** 59 + 1, 10 ** 59), 2)
        self.assertEqual(rounds_up(10 ** 59, 10 ** 59), 1)
        self.assertEqual(rounds_up(-GREATEST, 10 ** 30), -(10 ** 30) + 1)
        self.assertEqual(rounds_up(1, GREATEST), 1)
        self.assertEqual(rounds_up(-1, GREATEST), 0)

    def test_the_same_answer_each_time(self):
        self.assertEqual([rounds_up(10 ** 59 + 1, 7) for time in range(3)], [rounds_up(10 ** 59 + 1, 7)] * 3)


if __name__ == "__main__":
    unittest.main()
