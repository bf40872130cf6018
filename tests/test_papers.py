"""Point 22, and point 3 for papers."""

import itertools

from dutyproof.answers import answer, fits
from dutyproof.bench import ends, missed
from dutyproof.comings import ready
from dutyproof.duties import Duty
from dutyproof.errors import NotKept
from dutyproof.orders import ByRank
from dutyproof.papers import lets_by, paper
from dutyproof.works import Work
from helper import GREATEST, NAMES, Case, chance, dense_row, scaled, some_duty

SCALE = 10 ** 57 + 1
DUTY = Duty([Work("wash", 10, 3), Work("press", 15, 4, 14, 2), Work("fold", 50, 5, 40, 1)])


class OwnPaper(Case):
    def test_the_list_of_the_answers(self):
        self.assertEqual(paper(DUTY), [3, 7, 19])
        self.assertEqual(paper(Duty([Work("a", 9, 4)])), [4])

    def test_without_works(self):
        self.assertEqual(paper(Duty([])), [])

    def test_not_kept_with_the_least_number(self):
        for flaws in itertools.product([False, True], repeat=4):
            works = [Work(NAMES[place], 500, 60 if flaw else 1, 50) for place, flaw in enumerate(flaws)]
            without = [at for at in range(4) if answer(Duty(works), at) is None]
            if without:
                self.assertEqual(self.assert_refused(NotKept, paper, Duty(works)).at, without[0])
                self.assertEqual(without[0], flaws.index(True))
            else:
                self.assertEqual(paper(Duty(works)), [1, 2, 3, 4])

    def test_not_kept_in_the_midst(self):
        duty = Duty([Work("a", 10, 3), Work("b", 40, 5, 7), Work("c", 90, 1), Work("d", 40, 5, 7)])
        self.assertEqual(self.assert_refused(NotKept, paper, duty).at, 1)
        self.assertEqual(answer(duty, 2), 9)

    def test_twelve_works(self):
        self.assertEqual(paper(Duty([Work(name, 50, 2) for name in NAMES])), [2 * k for k in range(1, 13)])
        works = [Work(name, 50, 2) for name in NAMES[:11]] + [Work("zoo", 50, 29)]
        self.assertEqual(self.assert_refused(NotKept, paper, Duty(works)).at, 11)

    def test_sixty_figures(self):
        duty = Duty([Work("a", 10 ** 58, 10 ** 58 - 1), Work("b", 79 * 10 ** 58, 79)])
        self.assertEqual(paper(duty), [10 ** 58 - 1, 79 * 10 ** 58])
        self.assertEqual(self.assert_refused(NotKept, paper, duty.longer(1, 1)).at, 1)
        self.assertEqual(self.assert_refused(NotKept, paper, duty.longer(0, 2)).at, 0)


class LetBy(Case):
    def test_its_own_paper(self):
        self.assertIs(lets_by(DUTY, [3, 7, 19]), True)

    def test_lines_need_not_be_the_least(self):
        for lines in ([10, 7, 19], [3, 12, 19], [3, 7, 20], [9, 10, 39], [10, 12, 39]):
            self.assertIs(lets_by(DUTY, lines), all(fits(DUTY, at, line) for at, line in enumerate(lines)))
            self.assertIs(lets_by(DUTY, lines), True, lines)

    def test_a_line_too_small(self):
        for lines in ([2, 7, 19], [3, 6, 19], [3, 7, 18], [0, 7, 19], [3, -7, 19], [3, 7, -GREATEST]):
            self.assertIs(lets_by(DUTY, lines), False, lines)

    def test_a_line_too_large(self):
        for lines in ([11, 7, 19], [3, 13, 19], [3, 7, 40], [3, 7, GREATEST]):
            self.assertIs(lets_by(DUTY, lines), False, lines)

    def test_too_few_lines_and_too_many(self):
        for lines in ([], [3], [3, 7], [3, 7, 19, 19], [3, 7, 19, 3, 7, 19], [3, 7, 19, 0]):
            self.assertIs(lets_by(DUTY, lines), False, lines)

    def test_lines_in_another_order(self):
        for lines in itertools.permutations([3, 7, 19]):
            self.assertIs(lets_by(DUTY, list(lines)), list(lines) == [3, 7, 19])

    def test_without_works(self):
        self.assertIs(lets_by(Duty([]), []), True)
        for lines in ([0], [1], [1, 1], [GREATEST]):
            self.assertIs(lets_by(Duty([]), lines), False)

    def test_where_a_work_has_no_answer_no_paper_is_let_by(self):
        duty = Duty([Work("a", 10, 3), Work("b", 20, 9, 8)])
        for line in range(-1, 30):
            self.assertIs(lets_by(duty, [3, line]), False)

    def test_sixty_figures(self):
        duty = Duty([Work("a", 10 ** 58, 10 ** 58 - 1), Work("b", 79 * 10 ** 58, 79)])
        first, second = 10 ** 58 - 1, 79 * 10 ** 58
        self.assertIs(lets_by(duty, [first, second]), True)
        self.assertIs(lets_by(duty, [first + 1, second]), True)
        for lines in ([first + 2, second], [first - 1, second], [first, second - 1], [first, second + 1]):
            self.assertIs(lets_by(duty, lines), False)

    def test_each_line_must_fit_its_work(self):
        dice = chance(221)
        seen = {True: 0, False: 0}
        for time in range(400):
            duty = some_duty(dice, dice.randint(0, 1) == 1, most=3, long=4)
            lines = [dice.randint(1, 20) for at in range(duty.size())]
            expected = all(fits(duty, at, line) for at, line in enumerate(lines))
            self.assertIs(lets_by(duty, lines), expected)
            seen[expected] += 1
        self.assertGreater(min(seen.values()), 50)


class Promise(Case):
    """Point 3: a paper that is let by, whoever wrote it, is kept by each row."""

    def test_rows_by_chance(self):
        dice = chance(31)
        let = 0
        for time in range(500):
            held = dice.randint(0, 1) == 1
            duty = some_duty(dice, held, most=4, long=4)
            lines = []
            for at in range(duty.size()):
                fitting = [line for line in range(1, 41) if fits(duty, at, line)]
                lines.append(dice.choice(fitting or [1]))
            if duty.size() and lets_by(duty, lines):
                let += 1
                # A hold keeps others waiting for one turn less than its length, so this is not so many times as large.
                for by in (1,) if held else (1, SCALE):
                    large = scaled(duty, by)
                    own = paper(large)
                    row = [(at, come * by, late * by, length * by)
                           for at, come, late, length in dense_row(dice, duty)]
                    self.assertEqual(missed(ByRank(large), row), [])
                    for coming, end in zip(row, ends(ByRank(large), row)):
                        self.assertLessEqual(end, ready(coming) + own[coming[0]])
                        self.assertLessEqual(end, ready(coming) + lines[coming[0]] * by)
        self.assertGreater(let, 100)


class Independence(Case):
    def test_what_is_handed_in_is_not_changed(self):
        for lines in ([3, 7, 19], [3, 7], [19, 7, 3]):
            before = list(lines)
            lets_by(DUTY, lines)
            self.assertEqual(lines, before)

    def test_a_list_that_is_told_is_the_asker_s_own(self):
        told = paper(DUTY)
        self.assert_list(told, int)
        told.append(5)
        told[0] = 99
        self.assertEqual(paper(DUTY), [3, 7, 19])
        self.assertIs(lets_by(DUTY, paper(DUTY)), True)
        empty = paper(Duty([]))
        empty.append(1)
        self.assertEqual(paper(Duty([])), [])

    def test_the_same_question_has_the_same_answer(self):
        for time in range(3):
            self.assertIs(lets_by(DUTY, [3, 7, 19]), True)
            self.assertEqual(paper(DUTY), [3, 7, 19])
