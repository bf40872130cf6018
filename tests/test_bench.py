"""Points 10 (where a row is run), 16, 17 and 18, and point 2 for runs."""

from dutyproof.bench import ends, missed, run
from dutyproof.comings import first_wrong
from dutyproof.duties import Duty
from dutyproof.errors import BadRow, TooMany
from dutyproof.orders import ByComing, ByDue, ByRank
from dutyproof.things import hold_up
from dutyproof.works import Work
from helper import (
    GREATEST, Case, chance, dense_row, scaled, scaled_row, slow_stretches, slow_turns, some_duty, some_row)

KINDS = {"ranks": ByRank, "due": ByDue, "coming": ByComing}
PLAIN = Duty([Work("wash", 10, 3, 9), Work("press", 20, 4, 12, 5), Work("fold", 40, 8, 30, 50)])
HELD = Duty([Work("wash", 12, 4, 12, 3, [("oven", 0, 2)]), Work("iron", 40, 3),
             Work("press", 30, 9, 25, 0, [("oven", 1, 6)])])
SCALE = 10 ** 57 + 1


def orders_of(duty):
    held = any(duty.work(at).held() for at in range(duty.size()))
    return {how: kind(duty) for how, kind in KINDS.items() if how == "ranks" or not held}


class ByHand(Case):
    def test_without_comings(self):
        for duty in (PLAIN, Duty([])):
            for order in orders_of(duty).values():
                self.assertEqual((run(order, []), ends(order, []), missed(order, [])), ([], [], []))

    def test_one_coming(self):
        for order in orders_of(PLAIN).values():
            self.assertEqual(run(order, [(1, 0, 0, 4)]), [(0, 0, 4)])
            self.assertEqual(run(order, [(1, 7, 5, 2)]), [(0, 12, 14)])
            self.assertEqual(run(order, [(0, 3, 0, 1)]), [(0, 3, 4)])

    def test_the_stronger_has_the_bench_as_soon_as_it_is_ready(self):
        row = [(2, 0, 0, 8), (0, 2, 0, 3), (1, 3, 1, 4)]
        self.assertEqual(run(ByRank(PLAIN), row), [(0, 0, 2), (1, 2, 5), (2, 5, 9), (0, 9, 15)])
        self.assertEqual(ends(ByRank(PLAIN), row), [15, 5, 9])

    def test_the_nearest_due_goes_first(self):
        row = [(2, 0, 0, 8), (0, 12, 0, 3), (1, 3, 1, 4)]
        self.assertEqual(run(ByDue(PLAIN), row), [(0, 0, 4), (2, 4, 8), (0, 8, 12), (1, 12, 15)])
        self.assertEqual(run(ByDue(PLAIN), [(2, 0, 0, 8), (0, 22, 0, 3)]), [(0, 0, 8), (1, 22, 25)])
        # Ready behind its due, it goes first all the same.
        self.assertEqual(run(ByDue(PLAIN), [(2, 0, 50, 8), (0, 49, 0, 3)]), [(1, 49, 50), (0, 50, 58), (1, 58, 60)])

    def test_the_earliest_coming_goes_first(self):
        row = [(2, 1, 9, 8), (0, 2, 0, 3), (1, 6, 0, 4)]
        self.assertEqual(run(ByComing(PLAIN), row), [(1, 2, 5), (2, 6, 10), (0, 10, 18)])
        row = [(2, 1, 8, 8), (0, 2, 0, 3), (1, 6, 0, 4)]
        self.assertEqual(run(ByComing(PLAIN), row), [(1, 2, 5), (2, 6, 9), (0, 9, 17), (2, 17, 18)])

    def test_turns_that_are_nobody_s(self):
        self.assertEqual(run(ByRank(PLAIN), [(0, 5, 0, 2), (0, 20, 0, 3)]), [(0, 5, 7), (1, 20, 23)])

    def test_ready_at_the_very_turn_at_which_another_is_done(self):
        self.assertEqual(run(ByRank(PLAIN), [(1, 0, 0, 4), (0, 4, 0, 3)]), [(0, 0, 4), (1, 4, 7)])
        self.assertEqual(run(ByRank(PLAIN), [(0, 0, 0, 3), (1, 3, 0, 4)]), [(0, 0, 3), (1, 3, 7)])

    def test_two_comings_of_one_work_one_behind_the_other(self):
        duty = Duty([Work("wash", 4, 4)])
        self.assertEqual(run(ByRank(duty), [(0, 0, 0, 4), (0, 4, 0, 4)]), [(0, 0, 4), (1, 4, 8)])

    def test_comings_that_are_ready_at_one_turn(self):
        row = [(2, 0, 5, 8), (1, 2, 3, 4), (0, 5, 0, 3)]
        self.assertEqual(run(ByRank(PLAIN), row), [(2, 5, 8), (1, 8, 12), (0, 12, 20)])
        self.assertEqual(run(ByDue(PLAIN), row), [(1, 5, 9), (2, 9, 12), (0, 12, 20)])
        self.assertEqual(run(ByComing(PLAIN), row), [(0, 5, 13), (1, 13, 17), (2, 17, 20)])

    def test_a_later_coming_of_a_work_ready_ahead_of_an_earlier_one(self):
        row = [(2, 0, 45, 2), (2, 40, 0, 8)]
        self.assertEqual(run(ByRank(PLAIN), row), [(1, 40, 45), (0, 45, 47), (1, 47, 50)])

    def test_alike_in_rank_the_least_place_goes_first(self):
        duty = Duty([Work("wash", 5, 5, 5, 20)])
        row = [(0, 0, 20, 5), (0, 5, 15, 5), (0, 10, 10, 5)]
        self.assertEqual(run(ByRank(duty), row), [(0, 20, 25), (1, 25, 30), (2, 30, 35)])


class Held(Case):
    def test_the_one_that_holds_the_thing_goes_on_till_it_lets_it_go(self):
        # With 2 turns done press holds the oven; with 6 it lets it go, amid its length.
        row = [(2, 0, 0, 9), (0, 0, 2, 4)]
        self.assertEqual(run(ByRank(HELD), row), [(0, 0, 6), (1, 6, 10), (0, 10, 13)])

    def test_with_just_the_start_done_it_does_not_hold_it_yet(self):
        self.assertEqual(run(ByRank(HELD), [(2, 0, 0, 9), (0, 1, 0, 4)]), [(0, 0, 1), (1, 1, 5), (0, 5, 13)])

    def test_with_just_the_end_done_it_holds_it_no_more(self):
        self.assertEqual(run(ByRank(HELD), [(2, 0, 0, 9), (0, 6, 0, 4)]), [(0, 0, 6), (1, 6, 10), (0, 10, 13)])
        self.assertEqual(run(ByRank(HELD), [(2, 0, 0, 9), (0, 5, 0, 4)]), [(0, 0, 6), (1, 6, 10), (0, 10, 13)])

    def test_one_between_is_held_up_too(self):
        row = [(2, 0, 0, 9), (1, 3, 0, 3), (0, 8, 0, 4)]
        self.assertEqual(run(ByRank(HELD), row), [(0, 0, 6), (1, 6, 8), (2, 8, 12), (1, 12, 13), (0, 13, 16)])

    def test_a_coming_shorter_than_its_work_that_ends_amid_a_hold(self):
        row = [(2, 0, 0, 4), (0, 2, 0, 4)]
        self.assertEqual(run(ByRank(HELD), row), [(0, 0, 4), (1, 4, 8)])
        # What is done holds nothing: a second coming of press takes the oven.
        row = [(2, 0, 0, 4), (0, 2, 0, 1), (2, 30, 0, 9), (0, 32, 0, 4)]
        self.assertEqual(run(ByRank(HELD), row), [(0, 0, 4), (1, 4, 5), (2, 30, 36), (3, 36, 40), (2, 40, 43)])

    def test_a_stronger_one_that_the_thing_does_not_concern(self):
        duty = Duty([Work("bell", 50, 2), Work("wash", 50, 4, None, 0, [("oven", 0, 2)]),
                     Work("press", 50, 9, None, 0, [("oven", 1, 6)])])
        row = [(2, 0, 0, 9), (1, 2, 0, 4), (0, 4, 0, 2)]
        self.assertEqual(run(ByRank(duty), row), [(0, 0, 4), (2, 4, 6), (0, 6, 8), (1, 8, 12), (0, 12, 15)])

    def test_holds_one_in_the_other(self):
        duty = Duty([Work("a", 99, 3, None, 0, [("ink", 0, 1)]), Work("b", 99, 3, None, 0, [("oven", 0, 1)]),
                     Work("c", 99, 12, None, 0, [("oven", 1, 10), ("ink", 3, 6)])])
        row = [(2, 0, 0, 12), (1, 2, 0, 3), (0, 4, 0, 3)]
        self.assertEqual(run(ByRank(duty), row), [(0, 0, 6), (2, 6, 9), (0, 9, 13), (1, 13, 16), (0, 16, 18)])

    def test_holds_side_by_side(self):
        duty = Duty([Work("a", 99, 3, None, 0, [("ink", 0, 1), ("oven", 1, 2)]),
                     Work("b", 99, 12, None, 0, [("ink", 1, 4), ("oven", 4, 8)])])
        self.assertEqual(run(ByRank(duty), [(1, 0, 0, 12), (0, 2, 0, 3)]), [(0, 0, 4), (1, 4, 7), (0, 7, 15)])
        self.assertEqual(run(ByRank(duty), [(1, 0, 0, 12), (0, 5, 0, 3)]), [(0, 0, 8), (1, 8, 11), (0, 11, 15)])


class Late(Case):
    def test_just_in_time_and_just_late(self):
        duty = Duty([Work("wash", 10, 4, 10), Work("press", 20, 6, 9)])
        self.assertEqual(ends(ByRank(duty), [(0, 0, 0, 3), (1, 0, 0, 6)]), [3, 9])
        self.assertEqual(missed(ByRank(duty), [(0, 0, 0, 3), (1, 0, 0, 6)]), [])
        self.assertEqual(ends(ByRank(duty), [(0, 0, 0, 4), (1, 0, 0, 6)]), [4, 10])
        self.assertEqual(missed(ByRank(duty), [(0, 0, 0, 4), (1, 0, 0, 6)]), [1])

    def test_the_due_counts_from_the_coming(self):
        duty = Duty([Work("wash", 10, 4, 6, 8)])
        self.assertEqual([missed(ByRank(duty), [(0, 5, late, 4)]) for late in (0, 2, 3, 6, 8)],
                         [[], [], [0], [0], [0]])

    def test_one_that_is_late_goes_on_all_the_same(self):
        duty = Duty([Work("wash", 10, 25, 5), Work("press", 40, 2)])
        row = [(0, 0, 0, 25), (0, 10, 0, 25), (1, 0, 0, 2)]
        self.assertEqual(run(ByRank(duty), row), [(0, 0, 25), (1, 25, 50), (2, 50, 52)])
        self.assertEqual(run(ByDue(duty), row), [(0, 0, 25), (1, 25, 50), (2, 50, 52)])
        self.assertEqual(run(ByComing(duty), row), [(0, 0, 25), (2, 25, 27), (1, 27, 52)])
        self.assertEqual(missed(ByRank(duty), row), [0, 1, 2])
        self.assertEqual(missed(ByComing(duty), row), [0, 1])

    def test_the_places_rise(self):
        duty = Duty([Work("wash", 10, 8, 8), Work("press", 40, 2, 1)])
        row = [(1, 5, 0, 2), (0, 40, 0, 8), (1, 60, 0, 2), (0, 59, 0, 8), (0, 69, 0, 8)]
        self.assertEqual(missed(ByRank(duty), row), [0, 2])
        self.assertEqual(missed(ByRank(duty), [row[1], row[0], row[3], row[2]]), [1, 3])


class LargeNumbers(Case):
    def test_two_comings_of_sixty_figures(self):
        half = 5 * 10 ** 59
        duty = Duty([Work("wash", GREATEST, half), Work("press", GREATEST, GREATEST, GREATEST - 1, GREATEST)])
        row = [(1, 0, 0, GREATEST), (0, half, 0, half)]
        self.assertEqual(run(ByRank(duty), row), [(0, 0, half), (1, half, 2 * half), (0, 2 * half, GREATEST + half)])
        self.assertEqual(missed(ByRank(duty), row), [0])
        self.assertEqual(run(ByDue(duty), row), [(0, 0, GREATEST), (1, GREATEST, GREATEST + half)])
        row = [(1, GREATEST, GREATEST, 1)]
        self.assertEqual(run(ByRank(duty), row), [(0, 2 * GREATEST, 2 * GREATEST + 1)])

    def test_a_hold_of_sixty_figures(self):
        duty = Duty([Work("wash", GREATEST, 4, None, 0, [("oven", 0, 2)]),
                     Work("press", GREATEST, GREATEST, None, 0, [("oven", 10 ** 58, GREATEST - 1)])])
        for come, until in ((10 ** 58, 10 ** 58), (10 ** 58 + 1, GREATEST - 1), (GREATEST - 2, GREATEST - 1),
                            (GREATEST - 1, GREATEST - 1)):
            row = [(1, 0, 0, GREATEST), (0, come, 0, 4)]
            self.assertEqual(run(ByRank(duty), row), [(0, 0, until), (1, until, until + 4),
                                                      (0, until + 4, GREATEST + 4)])

    def test_the_same_row_in_small_and_in_large(self):
        dice = chance(171)
        for time in range(150):
            duty = some_duty(dice, dice.randint(0, 1) == 1, long=12)
            row = some_row(dice, duty)
            large = scaled(duty, SCALE)
            for how, order in orders_of(duty).items():
                small = run(order, row)
                told = run(KINDS[how](large), scaled_row(row, SCALE))
                self.assertEqual(told, [(place, begin * SCALE, until * SCALE) for place, begin, until in small])


class AnyRow(Case):
    def assert_form(self, stretches):
        self.assert_list(stretches, tuple)
        for place, begin, until in stretches:
            self.assertLess(begin, until)
        for (place, begin, until), (other, later, end) in zip(stretches, stretches[1:]):
            self.assertLessEqual(until, later)
            if until == later:
                self.assertNotEqual(place, other)

    def assert_row(self, how, order, row):
        duty = order.duty
        turns = slow_turns(how, duty, row)
        stretches = run(order, row)
        self.assert_form(stretches)
        self.assertEqual(stretches, slow_stretches(turns))
        ended = [max(turn for turn, other in enumerate(turns) if other == place) + 1 for place in range(len(row))]
        self.assertEqual(ends(order, row), ended)
        late = [place for place, coming in enumerate(row)
                if ended[place] > coming[1] + duty.work(coming[0]).due]
        self.assertEqual(missed(order, row), late)
        return len(stretches) > len(row), len(late) > 0

    def test_against_the_bench_turn_by_turn(self):
        dice = chance(161)
        broken_off = late = 0
        for time in range(500):
            duty = some_duty(dice, dice.randint(0, 2) > 0, long=dice.choice([4, 9, 15]))
            row = dice.choice([some_row, dense_row])(dice, duty) if duty.size() else []
            self.assertIsNone(first_wrong(duty, row))
            for how, order in orders_of(duty).items():
                told = self.assert_row(how, order, row)
                broken_off += told[0]
                late += told[1]
        self.assertGreater(broken_off, 150)
        self.assertGreater(late, 150)


class Promises(Case):
    """Point 18, read off the told stretches alone."""

    def turns_of(self, stretches):
        return [(turn, place) for place, begin, until in stretches for turn in range(begin, until)]

    def holders(self, duty, row, dones, place_now):
        """Who holds each thing while place_now has its turn."""
        held = {}
        for place, (at, come, late, length) in enumerate(row):
            for thing, start, end in duty.work(at).held():
                begun = dones[place] > start or (dones[place] == start and place == place_now)
                if begun and dones[place] < min(end, length):
                    held.setdefault(thing, []).append(place)
        return held

    def test_no_thing_is_held_by_two_at_once(self):
        dice = chance(181)
        waits = 0
        for time in range(400):
            duty = some_duty(dice, True, long=12)
            row = dense_row(dice, duty) if duty.size() else []
            dones = [0] * len(row)
            for turn, now in self.turns_of(run(ByRank(duty), row)):
                held = self.holders(duty, row, dones, now)
                self.assertTrue(all(len(places) == 1 for places in held.values()), (row, turn, held))
                waits += any(places != [now] for places in held.values())
                dones[now] += 1
        self.assertGreater(waits, 100)

    def test_weaker_ones_have_no_more_turns_than_told(self):
        dice = chance(182)
        held_up = just = 0
        for time in range(400):
            duty = some_duty(dice, True, long=12)
            row = dense_row(dice, duty) if duty.size() else []
            stretches, ended = run(ByRank(duty), row), ends(ByRank(duty), row)
            for place, (at, come, late, length) in enumerate(row):
                weaker = sum(max(0, min(until, ended[place]) - max(begin, come + late))
                             for other, begin, until in stretches if row[other][0] > at)
                self.assertLessEqual(weaker, hold_up(duty, at))
                held_up += weaker > 0
                just += weaker > 0 and weaker == hold_up(duty, at)
        self.assertGreater(held_up, 100)
        self.assertGreater(just, 10)


class Refusals(Case):
    def assert_all_refused(self, kind, order, row):
        return [self.assert_refused(kind, ask, order, row) for ask in (run, ends, missed)]

    def test_two_hundred_and_one_comings(self):
        row = [(0, 10 * place, 0, 3) for place in range(201)]
        for order in orders_of(PLAIN).values():
            self.assertEqual(len(run(order, row[:200])), 200)
            self.assertEqual(len(ends(order, row[:200])), 200)
            self.assertEqual(missed(order, row[:200]), [])
            self.assert_all_refused(TooMany, order, row)
            self.assert_all_refused(TooMany, order, [None] * 201)

    def test_a_row_that_is_not_legal(self):
        for order in orders_of(PLAIN).values():
            for place in (0, 1, 2):
                row = [(0, 0, 0, 3), (1, 0, 0, 4), (0, 10, 0, 3)]
                row[place] = (0, 5, 1, 3)
                for refusal in self.assert_all_refused(BadRow, order, row):
                    self.assertEqual(refusal.place, place)
            for refusal in self.assert_all_refused(BadRow, order, [(0, 0, 0, 3), None]):
                self.assertEqual(refusal.place, 1)
        self.assert_all_refused(BadRow, ByRank(Duty([])), [(0, 0, 0, 1)])

    def test_two_hundred_comings_with_many_holds(self):
        things = ["ta", "tb", "tc", "td", "te", "tf"]
        works = [Work("m" + letter, 100, 30, 100, 500, [(thing, 4 * k, 4 * k + 3) for k, thing in enumerate(things)])
                 for letter in "abcdefghijkl"]
        row = [(at, 100 * k, 500 - 100 * k, 30) for at in range(12) for k in range(6)]
        stretches = run(ByRank(Duty(works)), row)
        self.assertEqual(stretches, [(place, 500 + 30 * place, 530 + 30 * place) for place in range(72)])


class Independence(Case):
    def test_what_is_handed_in_is_not_changed(self):
        row = [(2, 0, 0, 8), (0, 2, 0, 3), (1, 3, 1, 4)]
        before = list(row)
        for order in orders_of(PLAIN).values():
            for ask in (run, ends, missed):
                ask(order, row)
                self.assertEqual(row, before)

    def test_a_list_that_is_told_is_the_asker_s_own(self):
        row = [(2, 0, 0, 8), (0, 2, 0, 3), (1, 3, 1, 4)]
        for order in orders_of(PLAIN).values():
            for ask in (run, ends, missed):
                for asked in (row, []):
                    told = ask(order, asked)
                    before = list(told)
                    self.assertIsNot(told, ask(order, asked))
                    told.append(7)
                    told.reverse()
                    self.assertEqual(ask(order, asked), before)

    def test_the_same_order_runs_many_rows(self):
        order = ByRank(HELD)
        row = [(2, 0, 0, 9), (0, 0, 2, 4)]
        first = run(order, row)
        run(order, [(2, 7, 0, 3), (0, 0, 3, 1), (1, 1, 0, 1)])
        self.assert_refused(BadRow, run, order, [None])
        self.assertEqual(run(order, row), first)
        self.assertEqual(ends(order, row), [13, 10])
