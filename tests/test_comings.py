"""Points 8, 9 and 10, and point 2 for rows."""

from dutyproof.comings import checked, due_at, first_wrong, ready
from dutyproof.duties import Duty
from dutyproof.errors import BadRow, TooMany
from dutyproof.works import Work
from helper import GREATEST, Case, chance, some_duty, some_row

PRESS = Work("press", 30, 7, 25, 2, [("oven", 1, 4)])
WASH = Work("wash", 12, 4)
FOLD = Work("fold", 10, 3, 5, 25)
DUTY = Duty([PRESS, WASH, FOLD])
LARGE = Duty([Work("large", 10 ** 59, GREATEST, 10 ** 59 - 1, 5 * 10 ** 59)])
OTHER_KINDS = (None, True, 3, 1.5, "abcd", b"abcd", [0, 0, 0, 1], {}, {0: 0, 1: 0, 2: 0, 3: 1}, object(), tuple)


def slowly_wrong(duty, row):
    """The first wrong place, by asking each place alone, whatever stands at the others."""
    for place, coming in enumerate(row):
        if type(coming) is not tuple or len(coming) != 4 or any(type(part) is not int for part in coming):
            return place
        at, come, late, length = coming
        if at not in range(duty.size()):
            return place
        work = duty.work(at)
        if come < 0 or late not in range(work.late + 1) or length not in range(1, work.length + 1):
            return place
        ahead = [other for other in row[:place] if type(other) is tuple and other[:1] == (at,)]
        if ahead and come - ahead[-1][1] < work.gap:
            return place
    return None


class ReadyAndDue(Case):
    def test_ready(self):
        self.assertEqual([ready(coming) for coming in ((0, 0, 0, 1), (0, 5, 2, 7), (1, 3, 0, 4), (2, 0, 25, 1))],
                         [0, 7, 3, 25])

    def test_the_due_counts_from_the_coming(self):
        self.assertEqual([due_at(DUTY, coming) for coming in ((0, 0, 0, 1), (0, 0, 2, 7), (0, 5, 2, 1), (1, 3, 0, 4))],
                         [25, 25, 30, 15])

    def test_a_coming_may_be_ready_behind_its_due(self):
        coming = (2, 4, 25, 1)
        self.assertEqual((ready(coming), due_at(DUTY, coming)), (29, 9))

    def test_sixty_figures(self):
        coming = (0, GREATEST, 5 * 10 ** 59, 1)
        self.assertEqual(ready(coming), GREATEST + 5 * 10 ** 59)
        self.assertEqual(due_at(LARGE, coming), GREATEST + 10 ** 59 - 1)
        self.assert_whole(ready(coming))
        self.assert_whole(due_at(LARGE, coming))


class OnePlace(Case):
    def assert_right(self, coming, duty=DUTY):
        self.assertIsNone(first_wrong(duty, [coming]))
        self.assertIsNone(checked(duty, [coming]))

    def assert_wrong(self, coming, duty=DUTY):
        self.assertEqual(first_wrong(duty, [coming]), 0)
        self.assertEqual(self.assert_refused(BadRow, checked, duty, [coming]).place, 0)
        sound = [(at, 1000, 0, 1) for at in range(duty.size())]
        self.assertEqual(first_wrong(duty, sound + [coming]), len(sound))
        self.assertEqual(first_wrong(duty, [coming] + sound), 0)

    def test_ordinary(self):
        for coming in ((0, 0, 0, 1), (0, 9, 2, 7), (1, 9, 0, 4), (2, 0, 25, 3)):
            self.assert_right(coming)

    def test_what_is_no_tuple(self):
        for thing in OTHER_KINDS:
            with self.subTest(thing=thing):
                self.assert_wrong(thing)

    def test_a_tuple_that_is_not_of_four(self):
        for coming in ((), (0,), (0, 0), (0, 0, 0), (0, 0, 0, 1, 0), (0, 0, 0, 1, None), ((0, 0, 0, 1),)):
            with self.subTest(coming=coming):
                self.assert_wrong(coming)

    def test_something_in_it_that_is_no_whole_number(self):
        for thing in (None, True, False, 1.0, 0.0, "1", "press", [1], (1,), object()):
            for place in range(4):
                coming = [0, 1, 1, 1]
                coming[place] = thing
                with self.subTest(coming=coming):
                    self.assert_wrong(tuple(coming))

    def test_the_number_of_a_work(self):
        for at in (-1, -3, 3, 4, GREATEST, -GREATEST):
            self.assert_wrong((at, 0, 0, 1))
        self.assert_wrong((0, 0, 0, 1), Duty([]))

    def test_it_comes_from_0_on(self):
        self.assert_right((0, 0, 0, 1))
        self.assert_right((0, GREATEST, 0, 1))
        for come in (-1, -2, -GREATEST):
            self.assert_wrong((0, come, 0, 1))
            self.assert_wrong((0, come, 2, 1))

    def test_the_lateness(self):
        for late in (0, 1, 2):
            self.assert_right((0, 0, late, 1))
        for late in (-1, 3, 30, GREATEST):
            self.assert_wrong((0, 5, late, 1))
        self.assert_right((1, 0, 0, 1))
        self.assert_wrong((1, 0, 1, 1))

    def test_the_length(self):
        for length in (1, 2, 6, 7):
            self.assert_right((0, 0, 0, length))
        for length in (0, -1, 8, 100, GREATEST, -GREATEST):
            self.assert_wrong((0, 0, 0, length))

    def test_sixty_figures(self):
        self.assert_right((0, GREATEST, 5 * 10 ** 59, GREATEST), LARGE)
        self.assert_wrong((0, 0, 5 * 10 ** 59 + 1, GREATEST), LARGE)
        self.assert_wrong((0, 0, 5 * 10 ** 59, GREATEST + 1), LARGE)


class Rows(Case):
    def test_the_row_without_comings_is_legal(self):
        self.assertIsNone(first_wrong(DUTY, []))
        self.assertIsNone(first_wrong(Duty([]), []))
        self.assertIsNone(checked(DUTY, []))

    def test_the_gap(self):
        self.assertIsNone(first_wrong(DUTY, [(0, 5, 0, 1), (0, 35, 0, 1), (0, 65, 0, 1)]))
        self.assertEqual(first_wrong(DUTY, [(0, 5, 0, 1), (0, 34, 0, 1)]), 1)
        self.assertEqual(first_wrong(DUTY, [(0, 5, 0, 1), (0, 35, 0, 1), (0, 64, 0, 1)]), 2)
        self.assertEqual(first_wrong(DUTY, [(0, 5, 0, 1), (0, 5, 0, 1)]), 1)

    def test_the_gap_counts_from_coming_to_coming_not_from_ready_to_ready(self):
        self.assertIsNone(first_wrong(DUTY, [(0, 0, 2, 1), (0, 30, 0, 1)]))
        self.assertEqual(first_wrong(DUTY, [(0, 0, 0, 1), (0, 29, 2, 1)]), 1)

    def test_comings_of_one_work_stand_in_the_order_in_which_they_come(self):
        self.assertEqual(first_wrong(DUTY, [(1, 40, 0, 1), (1, 0, 0, 1)]), 1)

    def test_those_of_unlike_works_stand_in_any_order(self):
        self.assertIsNone(first_wrong(DUTY, [(1, 400, 0, 1), (0, 0, 0, 1), (2, 90, 0, 1), (0, 30, 0, 1)]))

    def test_it_is_the_nearest_one_ahead_in_the_row_that_counts(self):
        row = [(1, 0, 0, 1), (0, 6, 0, 1), (2, 7, 0, 1), (1, 12, 0, 1), (0, 36, 0, 1), (1, 23, 0, 1)]
        self.assertEqual(first_wrong(DUTY, row), 5)
        row[5] = (1, 24, 0, 1)
        self.assertIsNone(first_wrong(DUTY, row))

    def test_a_later_coming_may_be_ready_ahead_of_an_earlier_one(self):
        row = [(2, 0, 25, 1), (2, 10, 0, 1)]
        self.assertIsNone(first_wrong(DUTY, row))
        self.assertEqual([ready(coming) for coming in row], [25, 10])

    def test_the_least_wrong_place_is_told(self):
        row = [(0, 0, 0, 1), (0, 0, 0, 1), None, (7, 0, 0, 1)]
        self.assertEqual(first_wrong(DUTY, row), 1)
        self.assertEqual(first_wrong(DUTY, row[1:]), 1)
        self.assertEqual(first_wrong(DUTY, row[2:]), 0)

    def test_sixty_figures(self):
        gap = 10 ** 59
        self.assertIsNone(first_wrong(LARGE, [(0, k * gap, 0, 1) for k in range(10)]))
        self.assertEqual(first_wrong(LARGE, [(0, 0, 0, 1), (0, gap, 0, 1), (0, 2 * gap - 1, 0, 1)]), 2)

    def test_a_row_of_any_length(self):
        for count in (200, 201, 1000, 50000):
            row = [(1, 12 * place, 0, 4) for place in range(count)]
            self.assertIsNone(first_wrong(DUTY, row))
            for place in (0, 1, 199, count - 1):
                wrong = list(row)
                wrong[place] = (1, 12 * place, 0, 5)
                self.assertEqual(first_wrong(DUTY, wrong), place)
            wrong = list(row)
            wrong[count - 1] = (1, 12 * (count - 1) - 1, 0, 4)
            self.assertEqual(first_wrong(DUTY, wrong), count - 1)

    def test_against_each_place_alone(self):
        dice = chance(91)
        spoils = [None, (0, 0, 0), (9, 0, 0, 1), (0, -1, 0, 1), (0, 3, -1, 1), (0, 3, 0, 0), (0, 3, 99, 1),
                  (0, 3, 0, 99), (1, 4, 0, 1), (0, 0, 0, True)]
        wrong = 0
        for time in range(600):
            duty = some_duty(dice)
            row = some_row(dice, duty)
            self.assertIsNone(first_wrong(duty, row))
            for spoil in range(dice.randint(0, 2)):
                row.insert(dice.randint(0, len(row)), dice.choice(spoils))
            if row and dice.randint(0, 1):
                dice.shuffle(row)
            self.assertEqual(first_wrong(duty, row), slowly_wrong(duty, row))
            wrong += first_wrong(duty, row) is not None
        self.assertGreater(wrong, 200)


class Checked(Case):
    def test_two_hundred_comings(self):
        row = [(1, 12 * place, 0, 4) for place in range(200)]
        self.assertIsNone(checked(DUTY, row))
        row[199] = (1, 0, 0, 4)
        self.assertEqual(self.assert_refused(BadRow, checked, DUTY, row).place, 199)

    def test_two_hundred_and_one(self):
        row = [(1, 12 * place, 0, 4) for place in range(201)]
        self.assert_refused(TooMany, checked, DUTY, row)

    def test_too_many_comes_ahead_whatever_stands_there(self):
        self.assert_refused(TooMany, checked, DUTY, [None] * 201)
        self.assert_refused(TooMany, checked, Duty([]), [None] * 1000)
        self.assert_refused(TooMany, checked, DUTY, [(0, 0, 0, 1)] * 201)

    def test_bad_row_bears_the_first_wrong_place(self):
        for place in range(5):
            row = [(1, 12 * k, 0, 4) for k in range(5)]
            row[place] = "wrong"
            self.assertEqual(self.assert_refused(BadRow, checked, DUTY, row).place, place)
        self.assertEqual(self.assert_refused(BadRow, checked, DUTY, [None] * 200).place, 0)


class Independence(Case):
    def test_what_is_handed_in_is_not_changed(self):
        row = [(1, 0, 0, 4), (0, 3, 2, 7), (1, 12, 0, 4)]
        first_wrong(DUTY, row)
        checked(DUTY, row)
        self.assertEqual(row, [(1, 0, 0, 4), (0, 3, 2, 7), (1, 12, 0, 4)])
        row = [(1, 0, 0, 4), None, [0, 0, 0, 1]]
        first_wrong(DUTY, row)
        self.assert_refused(BadRow, checked, DUTY, row)
        self.assertEqual(row, [(1, 0, 0, 4), None, [0, 0, 0, 1]])

    def test_the_same_question_has_the_same_answer(self):
        row = [(1, 0, 0, 4), (1, 11, 0, 4)]
        self.assertEqual([first_wrong(DUTY, row) for time in range(4)], [1] * 4)
        row[1] = (1, 12, 0, 4)
        self.assertEqual([first_wrong(DUTY, row) for time in range(4)], [None] * 4)
