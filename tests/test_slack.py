"""Point 36, and point 2 for slack."""

from dutyproof.answers import answer
from dutyproof.duties import Duty
from dutyproof.errors import NotKept
from dutyproof.slack import slack
from dutyproof.works import Work
from helper import GREATEST, NAMES, Case, chance, scaled, shown, some_duty

SCALE = 10 ** 57 + 1
DUTY = Duty([Work("wash", 10, 3), Work("press", 15, 4, 14, 2), Work("fold", 50, 5, 40, 1)])


def is_kept(duty):
    return all(answer(duty, at) is not None for at in range(duty.size()))


class SlackCase(Case):
    def assert_slack(self, duty, at, told=None):
        self.assertTrue(is_kept(duty))
        most = slack(duty, at)
        self.assert_whole(most)
        self.assertGreaterEqual(most, 0)
        self.assertTrue(is_kept(duty.longer(at, most)))
        self.assertFalse(is_kept(duty.longer(at, most + 1)))
        if told is not None:
            self.assertEqual(most, told)
        return most


class Kept(SlackCase):
    def test_one_work(self):
        for length in range(1, 9):
            self.assert_slack(Duty([Work("a", 10, length, 8)]), 0, 8 - length)
        self.assert_slack(Duty([Work("a", 10, 3, 8, 2)]), 0, 3)
        self.assert_slack(Duty([Work("a", 10, 3, 8, 5)]), 0, 0)

    def test_no_slack_at_all(self):
        duty = Duty([Work("a", 2, 1), Work("b", 4, 1), Work("c", 8, 2)])
        for at in range(3):
            self.assert_slack(duty, at, 0)

    def test_by_trying(self):
        for at in range(3):
            tried = 0
            while is_kept(DUTY.longer(at, tried + 1)):
                tried += 1
            self.assert_slack(DUTY, at, tried)

    def test_a_weaker_work_may_be_the_one_that_breaks(self):
        # Alone wash could grow by 7; press is in time only with 5 more.
        duty = Duty([Work("wash", 20, 3, 10), Work("press", 20, 4, 12)])
        self.assert_slack(duty, 0, 5)
        self.assert_slack(duty, 1, 5)

    def test_a_work_that_comes_many_times(self):
        duty = Duty([Work("wash", 10, 1), Work("press", 100, 10, 95)])
        self.assertEqual(self.assert_slack(duty, 0), 7)

    def test_a_stronger_work_does_not_feel_it(self):
        duty = Duty([Work("wash", 20, 10, 10), Work("press", 20, 4, 20)])
        self.assert_slack(duty, 1, 6)
        self.assert_slack(duty, 0, 0)

    def test_with_holds(self):
        duty = Duty([Work("wash", 12, 4, 12, 3, [("oven", 0, 2)]), Work("press", 90, 9, 80, 0, [("oven", 1, 6)])])
        self.assert_slack(duty, 0, 1)
        self.assert_slack(duty, 1)

    def test_a_hold_up_of_the_work_itself_counts(self):
        for end, told in ((2, 5), (3, 4), (6, 1), (7, 0)):
            duty = Duty([Work("wash", 90, 4, 9, 0, [("oven", 0, 2)]),
                         Work("press", 90, 9, 80, 0, [("oven", 1, end)])])
            self.assert_slack(duty, 0, told)

    def test_sixty_figures(self):
        duty = Duty([Work("a", 10 ** 58, 10 ** 58 - 1), Work("b", 79 * 10 ** 58, 79)])
        self.assert_slack(duty, 0, 0)
        self.assert_slack(duty, 1, 0)
        self.assert_slack(Duty([Work("a", GREATEST, 1)]), 0, GREATEST - 1)
        duty = Duty([Work("a", 10 ** 58, 10 ** 57 + 3, 10 ** 57 * 7, 11), Work("b", 77 * 10 ** 58, 79, None, 5)])
        for at in range(2):
            self.assert_slack(duty, at)

    def test_twelve_works(self):
        duty = Duty([Work(name, 60, 4) for name in NAMES])
        for at in range(12):
            self.assert_slack(duty, at, 12)

    def test_the_greatest_crowd(self):
        duty = Duty([Work("a", 10 ** 50, 3, None, 7), Work("b", 77 * 10 ** 50, 9 * 10 ** 49)])
        self.assertEqual(duty.crowd(), 79)
        for at in range(2):
            self.assert_slack(duty, at)

    def test_by_chance(self):
        dice = chance(361)
        kept = 0
        for time in range(1500):
            duty = some_duty(dice, dice.randint(0, 1) == 1, most=6, long=dice.choice([2, 3, 4, 6]))
            if is_kept(duty):
                for at in range(duty.size()):
                    kept += 1
                    self.assert_slack(duty, at)
        self.assertGreater(kept, 500)

    def test_by_chance_in_sixty_figures(self):
        dice = chance(362)
        kept = 0
        for time in range(600):
            duty = scaled(some_duty(dice, False, most=5, long=dice.choice([2, 3, 4])), SCALE)
            works = [duty.work(at) for at in range(duty.size())]
            duty = Duty([Work(work.name, work.gap + dice.randint(0, 10 ** 56), work.length + dice.randint(0, 10 ** 56),
                              work.due, work.late + dice.randint(0, 10 ** 56)) for work in works])
            if is_kept(duty):
                for at in range(duty.size()):
                    kept += 1
                    self.assert_slack(duty, at)
        self.assertGreater(kept, 150)


class Refused(SlackCase):
    def test_not_kept_with_the_least_number(self):
        duty = Duty([Work("a", 90, 1), Work("b", 90, 9, 8), Work("c", 90, 1), Work("d", 90, 9, 8)])
        for at in range(4):
            self.assertEqual(self.assert_refused(NotKept, slack, duty, at).at, 1)
        self.assertEqual(self.assert_refused(NotKept, slack, Duty([Work("a", 10, 9, 8)]), 0).at, 0)

    def test_a_weaker_one_without_an_answer(self):
        duty = Duty([Work("a", 10, 1), Work("b", 10, 9, 9)])
        for at in range(2):
            self.assertEqual(self.assert_refused(NotKept, slack, duty, at).at, 1)

    def test_sixty_figures(self):
        duty = Duty([Work("a", 10 ** 58, 10 ** 58 - 1), Work("b", 79 * 10 ** 58, 80)])
        self.assertEqual(self.assert_refused(NotKept, slack, duty, 0).at, 1)


class Independence(SlackCase):
    def test_the_duty_stays(self):
        before = shown(DUTY)
        first = [slack(DUTY, at) for at in range(3)]
        self.assertEqual([slack(DUTY, at) for at in range(3)], first)
        self.assertEqual(shown(DUTY), before)
