"""Points 24 to 29, point 3 for fars, and point 2 for what is told of demand."""

from dutyproof.bench import missed
from dutyproof.demand import asked, bends, crowded, demand, lets_by_due, spans
from dutyproof.duties import Duty
from dutyproof.errors import HoldsThings, TooMany
from dutyproof.orders import ByDue
from dutyproof.works import Work
from helper import GREATEST, Case, chance, dense_row, scaled, scaled_row, some_duty, some_row

SCALE = 10 ** 57 + 1
DUTY = Duty([Work("wash", 10, 3, 8), Work("press", 15, 4, 14, 2), Work("fold", 50, 5, 40, 45)])
# One coming more is ready in each span than is due in it, so no span is ever enough for what is asked.
ENDLESS = Duty([Work("wash", 2, 1, 2, 1), Work("press", 2, 1)])


def slow_dues(work, span):
    """How many comings, as dense as can be, are ready at the turn of the lateness or behind it, and due in the span."""
    return len([come for come in range(0, max(0, work.late + span) + 1, work.gap)
                if come + work.due <= work.late + span])


def held(duty):
    return any(duty.work(at).held() for at in range(duty.size()))


class Demands(Case):
    def test_by_hand(self):
        one = Duty([Work("wash", 10, 3, 8)])
        self.assertEqual([demand(one, span) for span in (-9, 0, 7, 8, 9, 17, 18, 27, 28)],
                         [0, 0, 0, 3, 3, 3, 6, 6, 9])
        # Bends of wash: 8, 18, 28; of press: 12, 27; of fold: -5, 45.
        self.assertEqual([demand(DUTY, span) for span in (-6, -5, -4, 0, 7, 8, 11, 12, 17, 18, 26, 27, 28)],
                         [0, 5, 5, 5, 5, 8, 8, 12, 12, 15, 15, 19, 22])

    def test_spans_below_0(self):
        duty = Duty([Work("wash", 10, 3, 8, 30)])
        self.assertEqual([demand(duty, span) for span in (-23, -22, -21, -13, -12, -2, -1, 0, 8)],
                         [0, 3, 3, 3, 6, 9, 9, 9, 12])

    def test_without_works(self):
        for span in (-GREATEST, -1, 0, 1, GREATEST):
            self.assertEqual((demand(Duty([]), span), asked(Duty([]), span), crowded(Duty([]), span)), (0, 0, 0))

    def test_sixty_figures(self):
        duty = Duty([Work("wash", 10 ** 30, 10 ** 29, 10 ** 30 - 1, 7)])
        bend = 10 ** 59 + 10 ** 30 - 1 - 7
        self.assertEqual([demand(duty, span) for span in (bend - 1, bend)], [10 ** 58, 10 ** 58 + 10 ** 29])
        self.assertEqual(demand(duty, -GREATEST), 0)
        self.assert_whole(demand(duty, GREATEST))

    def test_holds_are_not_looked_at(self):
        plain = Duty([Work("a", 10, 5), Work("b", 20, 7, 15, 4)])
        with_holds = Duty([Work("a", 10, 5, None, 0, [("ink", 1, 3)]), Work("b", 20, 7, 15, 4, [("ink", 0, 6)])])
        for span in range(-5, 60):
            self.assertEqual(demand(plain, span), demand(with_holds, span))
            self.assertEqual(asked(plain, span), asked(with_holds, span))
            self.assertEqual(crowded(plain, span), crowded(with_holds, span))
            self.assertEqual(bends(plain, span), bends(with_holds, span))
        self.assertEqual(spans(plain), spans(with_holds))

    def test_against_counting(self):
        dice = chance(241)
        for time in range(200):
            duty = some_duty(dice, dice.randint(0, 1) == 1)
            for span in list(range(-4, 5)) + [dice.randint(-60, 90) for k in range(8)]:
                slow = sum(slow_dues(duty.work(at), span) * duty.work(at).length for at in range(duty.size()))
                self.assertEqual(demand(duty, span), slow)

    def test_just_at_and_beside_each_bend(self):
        dice = chance(242)
        for time in range(100):
            duty = some_duty(dice, False)
            for bend in bends(duty, 40):
                self.assertGreater(demand(duty, bend), demand(duty, bend - 1))
                if bend + 1 <= 40 and bend + 1 not in bends(duty, 40):
                    self.assertEqual(demand(duty, bend + 1), demand(duty, bend))

    def test_no_legal_row_has_more(self):
        dice = chance(243)
        just = 0
        for time in range(250):
            duty = some_duty(dice, False, most=4)
            if duty.size() == 0:
                continue
            row = dice.choice([some_row, dense_row])(dice, duty)
            told = [(come + late, come + duty.work(at).due, length) for at, come, late, length in row]
            for begin in sorted(set(ready for ready, due, length in told)):
                for end in sorted(set(due for ready, due, length in told)):
                    lengths = sum(length for ready, due, length in told if ready >= begin and due <= end)
                    self.assertLessEqual(lengths, demand(duty, end - begin))
                    just += 0 < lengths == demand(duty, end - begin)
        self.assertGreater(just, 100)


class AskedAndCrowded(Case):
    def test_by_hand(self):
        self.assertEqual([asked(DUTY, span) for span in (-1, 0, 1, 5, 6, 10, 11, 13, 14)],
                         [0, 0, 3 + 4 + 5, 12, 17, 17, 20, 20, 24])
        self.assertEqual([crowded(DUTY, span) for span in (-1, 0, 1, 5, 6, 10, 11, 13, 14)],
                         [0, 0, 3, 3, 4, 4, 5, 5, 6])

    def test_sixty_figures(self):
        duty = Duty([Work("a", 10 ** 30, 10 ** 29, 7, 1), Work("b", 10 ** 31, 3)])
        self.assertEqual(crowded(duty, 10 ** 59), 10 ** 29 + 1 + 10 ** 28)
        self.assertEqual(asked(duty, 10 ** 59), (10 ** 29 + 1) * 10 ** 29 + 3 * 10 ** 28)
        self.assertEqual((asked(duty, -GREATEST), crowded(duty, -GREATEST)), (0, 0))

    def test_against_counting(self):
        dice = chance(251)
        for time in range(100):
            duty = some_duty(dice)
            for span in range(-3, 50, 3):
                counts = [len(range(0, span + duty.work(at).late, duty.work(at).gap)) if span > 0 else 0
                          for at in range(duty.size())]
                self.assertEqual(crowded(duty, span), sum(counts))
                self.assertEqual(asked(duty, span), sum(count * duty.work(at).length
                                                        for at, count in enumerate(counts)))


class Bends(Case):
    def test_by_hand(self):
        self.assertEqual(bends(DUTY, 30), [-5, 8, 12, 18, 27, 28])
        self.assertEqual(bends(DUTY, 45), [-5, 8, 12, 18, 27, 28, 38, 42, 45])

    def test_just_at_the_far_and_beside_it(self):
        self.assertEqual(bends(DUTY, 27), [-5, 8, 12, 18, 27])
        self.assertEqual(bends(DUTY, 26), [-5, 8, 12, 18])
        self.assertEqual([bends(DUTY, far) for far in (-6, -5, -4, 0, 1, 7, 8)],
                         [[], [-5], [-5], [-5], [-5], [-5], [-5, 8]])

    def test_each_once(self):
        self.assertEqual(bends(Duty([Work("a", 10, 1), Work("b", 20, 1), Work("c", 5, 1, 5, 5)]), 21),
                         [0, 5, 10, 15, 20])

    def test_some_are_0_or_below(self):
        self.assertEqual(bends(Duty([Work("a", 10, 1, 8, 38)]), 12), [-30, -20, -10, 0, 10])

    def test_without_works(self):
        for far in (-3, 0, 1, GREATEST):
            self.assertEqual(bends(Duty([]), far), [])

    def test_just_as_crowded_as_200_and_201(self):
        duty = Duty([Work("a", 10, 1, 3)])
        self.assertEqual(len(bends(duty, 2000)), 200)
        self.assertEqual(crowded(duty, 2000), 200)
        self.assert_refused(TooMany, bends, duty, 2001)
        self.assert_refused(TooMany, bends, duty, GREATEST)
        two = Duty([Work("a", 10, 1, 3), Work("b", 20, 1, 5, 7)])
        self.assertEqual([crowded(two, far) for far in (1330, 1331, 1334)], [200, 201, 202])
        self.assertEqual(bends(two, 1330)[-1], 1323)
        self.assert_refused(TooMany, bends, two, 1331)

    def test_just_200_in_sixty_figures(self):
        duty = Duty([Work("a", 10 ** 57, 1, 3)])
        self.assertEqual(bends(duty, 2 * 10 ** 59), [3 + k * 10 ** 57 for k in range(200)])
        self.assert_refused(TooMany, bends, duty, 2 * 10 ** 59 + 1)

    def test_a_far_below_1_is_never_too_crowded(self):
        duty = Duty([Work("a", 10, 1, 10, 790)])
        self.assertEqual(bends(duty, 0), [k * 10 - 780 for k in range(79)])
        self.assertEqual(bends(duty, -781), [])

    def test_against_trying_each_number(self):
        dice = chance(261)
        for time in range(150):
            duty = some_duty(dice)
            far = dice.randint(-40, 60)
            works = [duty.work(at) for at in range(duty.size())]
            slow = [bend for bend in range(-60, far + 1)
                    if any(bend >= work.due - work.late and (bend - work.due + work.late) % work.gap == 0
                           for work in works)]
            self.assertEqual(bends(duty, far), slow)


class LetByDue(Case):
    def test_by_hand(self):
        duty = Duty([Work("a", 4, 2), Work("b", 6, 3)])
        self.assertEqual(spans(duty), [6, 7, 10, 12])
        self.assertEqual([far for far in range(-3, 40) if lets_by_due(duty, far)], [12, 24, 36])

    def test_what_is_asked_is_just_the_far(self):
        duty = Duty([Work("a", 10, 4), Work("b", 10, 5)])
        self.assertEqual([far for far in range(-3, 22) if lets_by_due(duty, far)], [9, 10, 18, 19, 20])

    def test_the_demand_at_a_bend_is_just_the_bend_or_one_more(self):
        for due, let in ((5, False), (6, True), (7, True)):
            self.assertIs(lets_by_due(Duty([Work("a", 20, 3, 4), Work("b", 20, 3, due)]), 10), let)

    def test_a_bend_of_0_or_below_lets_nothing_by(self):
        for late, let in ((4, True), (5, False), (6, False), (7, False), (30, False)):
            self.assertIs(lets_by_due(Duty([Work("a", 20, 2, 6, late)]), 20), let)

    def test_a_bend_above_the_far_does_not_matter(self):
        duty = Duty([Work("a", 50, 2, 3), Work("b", 50, 3, 50)])
        self.assertIs(lets_by_due(duty, 5), True)
        self.assertIs(lets_by_due(duty, 4), False)

    def test_without_works(self):
        self.assertEqual([lets_by_due(Duty([]), far) for far in (-1, 0, 1, GREATEST)], [False, False, True, True])

    def test_a_truth_is_told(self):
        for far in (-1, 0, 9, 11):
            self.assertIs(type(lets_by_due(Duty([Work("a", 10, 9)]), far)), bool)

    def test_holds_things_comes_first(self):
        duty = Duty([Work("a", 10, 4), Work("b", 10, 4, None, 0, [("ink", 0, 1)])])
        for far in (-GREATEST, 0, 1, 10, 5000, GREATEST):
            self.assert_refused(HoldsThings, lets_by_due, duty, far)

    def test_then_a_far_below_1_is_not_let_by(self):
        for far in (0, -1, -GREATEST):
            self.assertIs(lets_by_due(DUTY, far), False)

    def test_then_too_many(self):
        for duty in (Duty([Work("a", 10, 1)]), Duty([Work("a", 10, 99)]), Duty([Work("a", 10, 5, 3)])):
            self.assertIs(type(lets_by_due(duty, 2000)), bool)
            self.assert_refused(TooMany, lets_by_due, duty, 2001)
        self.assertIs(lets_by_due(Duty([Work("a", 10, 1)]), 2000), True)

    def test_sixty_figures(self):
        duty = scaled(Duty([Work("a", 4, 2), Work("b", 6, 3)]), SCALE)
        self.assertIs(lets_by_due(duty, 12 * SCALE), True)
        self.assertIs(lets_by_due(duty, 12 * SCALE - 1), False)
        self.assertIs(lets_by_due(duty, 12 * SCALE + 1), False)
        self.assert_refused(TooMany, lets_by_due, duty, GREATEST)
        late = Duty([Work("a", GREATEST, 10 ** 59, 5 * 10 ** 59, 4 * 10 ** 59)])
        self.assertIs(lets_by_due(late, GREATEST - 4 * 10 ** 59), True)
        self.assertIs(lets_by_due(Duty([Work("a", GREATEST, 10 ** 59, 5 * 10 ** 59, 4 * 10 ** 59 + 1)]), 10 ** 59),
                      False)

    def test_against_each_span(self):
        dice = chance(271)
        seen = {True: 0, False: 0}
        for time in range(200):
            duty = some_duty(dice, False, most=3, long=5)
            for far in [dice.randint(1, 40) for k in range(6)]:
                kept = all(demand(duty, span) <= span for span in range(-70, far + 1) if demand(duty, span) > 0)
                slow = kept and asked(duty, far) <= far
                self.assertIs(lets_by_due(duty, far), slow)
                seen[slow] += 1
        self.assertGreater(min(seen.values()), 100)

    def test_then_no_row_is_late(self):
        dice = chance(281)
        let = 0
        for time in range(900):
            duty = some_duty(dice, False, most=4, long=6)
            fars = [far for far in spans(duty) + [dice.randint(1, 60)] if lets_by_due(duty, far)]
            if duty.size() and fars:
                let += 1
                for row in (some_row(dice, duty), dense_row(dice, duty), dense_row(dice, duty, 80)):
                    self.assertEqual(missed(ByDue(duty), row), [])
                    self.assertEqual(missed(ByDue(scaled(duty, SCALE)), scaled_row(row, SCALE)), [])
        self.assertGreater(let, 100)


class Spans(Case):
    def test_by_hand(self):
        self.assertEqual(spans(Duty([Work("a", 10, 4), Work("b", 10, 5)])), [10])
        # 40 asks 12 + 12 + 10, which is less.
        self.assertEqual(spans(DUTY), [40])

    def test_first_the_greatest_due(self):
        self.assertEqual(spans(Duty([Work("a", 99, 4, 7), Work("b", 90, 2, 6)])), [7])

    def test_without_works(self):
        self.assertEqual(spans(Duty([])), [1])

    def test_as_long_as_more_is_asked(self):
        self.assertEqual(spans(Duty([Work("a", 4, 2, 1), Work("b", 6, 3, 2)])), [2, 5, 7, 10, 12])

    def test_as_long_as_it_is_no_more_crowded_than_200(self):
        told = spans(ENDLESS)
        self.assertEqual(told, list(range(2, 200)))
        self.assertEqual(crowded(ENDLESS, 199), 200)
        self.assertEqual(crowded(ENDLESS, 200), 201)
        self.assertEqual(asked(ENDLESS, 199), 200)

    def test_just_200_and_just_201(self):
        # The second span asks for all of it: 10 each from gap 10.
        self.assertEqual(spans(Duty([Work("a", 10, 2000, 10)])), [10, 2000])
        self.assertEqual(spans(Duty([Work("a", 10, 2001, 10)])), [10])

    def test_sixty_figures(self):
        told = spans(scaled(ENDLESS, SCALE))
        self.assertEqual(told, [k * SCALE for k in range(2, 200)])
        self.assertEqual(spans(Duty([Work("a", GREATEST, GREATEST, 3)])), [3, GREATEST])

    def test_each_is_what_is_asked_in_the_one_ahead(self):
        dice = chance(291)
        stopped = 0
        for time in range(300):
            duty = some_duty(dice, dice.randint(0, 1) == 1, long=9)
            told = spans(duty)
            self.assertEqual(told[0], max([duty.work(at).due for at in range(duty.size())], default=1))
            for span, after in zip(told, told[1:]):
                self.assertEqual(asked(duty, span), after)
                self.assertGreater(after, span)
                self.assertLessEqual(crowded(duty, after), 200)
            more = asked(duty, told[-1])
            self.assertTrue(more <= told[-1] or crowded(duty, more) > 200)
            stopped += more > told[-1]
        self.assertGreater(stopped, 30)


class Independence(Case):
    def test_each_list_that_is_told_is_the_asker_s_own(self):
        for ask in (lambda: bends(DUTY, 30), lambda: spans(DUTY), lambda: bends(Duty([]), 3), lambda: spans(Duty([]))):
            told = ask()
            self.assert_list(told, int)
            before = list(told)
            told.append(7)
            told.reverse()
            self.assertEqual(ask(), before)
            self.assertIsNot(ask(), ask())
