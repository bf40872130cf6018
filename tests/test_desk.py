"""Point 40 with the interface's lines, and point 2 for desks."""

from dutyproof.answers import answer
from dutyproof.bench import ends, missed, run
from dutyproof.breaking import hardest
from dutyproof.comings import due_at, first_wrong, ready
from dutyproof.desk import Desk
from dutyproof.duties import Duty
from dutyproof.errors import (
    BadDuty, BadRow, BadWork, DutyError, HoldsThings, NoName, NoRanks, NoRow, NoText, NotKept, TooMany)
from dutyproof.orders import ByComing, ByDue, ByRank
from dutyproof.papers import paper
from dutyproof.ranks import ranked
from dutyproof.slack import slack
from dutyproof.texts import read_row, read_work, show_row, show_work
from dutyproof.verdicts import judge_due, judge_ranks
from helper import GREATEST, NAMES, Case, chance, scaled, scaled_row, some_duty, some_row

SCALE = 10 ** 57 + 1
PRESS, WASH = "press 30 7 25 0", "wash 10 4 9 3"
HELD = "fold 90 9 80 0 oven:1-4"
KINDS = {"ranks": ByRank, "due": ByDue, "coming": ByComing}
# One line of each kind that must be refused with NoRow when it has a word more or fewer.
LINES_WITHOUT_MORE = ["show", "find", "judge ranks", "judge due"]
HEADS = ["run ranks ", "run due ", "run coming ", "missed ranks ", "missed due ", "missed coming ", "full "]
LINES_WITH_A_NAME = ["drop", "slack", "hardest"]


class DeskCase(Case):
    def desk(self, *texts):
        desk = Desk()
        for text in texts:
            self.assertEqual(desk.say("work " + text), "ok")
        return desk

    def assert_says(self, desk, line, told):
        answered = desk.say(line)
        self.assertIs(type(answered), str)
        self.assertEqual(answered, told)

    def assert_no(self, kind, desk, line):
        """Refused with that kind, and nothing changed by it."""
        before = desk.say("show")
        refusal = self.assert_refused(kind, desk.say, line)
        self.assertEqual(desk.say("show"), before)
        return refusal


class Changes(DeskCase):
    def test_at_first_there_are_no_works(self):
        self.assert_says(Desk(), "show", "")

    def test_works_are_put_behind_the_others(self):
        desk = self.desk(PRESS, WASH, HELD)
        self.assert_says(desk, "show", f"{PRESS}; {WASH}; {HELD}")

    def test_each_desk_keeps_its_own(self):
        first, second = self.desk(PRESS), self.desk(WASH)
        self.assert_says(first, "show", PRESS)
        self.assert_says(second, "show", WASH)
        self.assert_says(Desk(), "show", "")

    def test_works_are_taken_out(self):
        desk = self.desk(PRESS, WASH, HELD)
        self.assertEqual(desk.say("drop wash"), "ok")
        self.assert_says(desk, "show", f"{PRESS}; {HELD}")
        self.assertEqual(desk.say("drop press"), "ok")
        self.assert_says(desk, "show", HELD)
        self.assertEqual(desk.say("drop fold"), "ok")
        self.assert_says(desk, "show", "")
        self.assertEqual(desk.say("work " + WASH), "ok")
        self.assert_says(desk, "show", WASH)

    def test_works_are_put_in_order(self):
        desk = self.desk(PRESS, WASH, HELD)
        self.assertEqual(desk.say("rank fold press wash"), "ok")
        self.assert_says(desk, "show", f"{HELD}; {PRESS}; {WASH}")
        self.assertEqual(desk.say("rank fold wash press"), "ok")
        self.assert_says(desk, "show", f"{HELD}; {WASH}; {PRESS}")

    def test_rank_alone(self):
        self.assert_says(Desk(), "rank", "ok")
        self.assert_no(BadDuty, self.desk(PRESS), "rank")

    def test_numbers_of_sixty_figures(self):
        nines = "9" * 60
        text = f"a {nines} {nines} {nines} {nines} ink:0-1"
        desk = self.desk(text)
        self.assert_says(desk, "show", text)
        self.assert_no(NoText, desk, f"work b 1{nines} 1 1 0")

    def test_a_work_is_refused_by_its_text(self):
        desk = self.desk(PRESS)
        for text in ("", " ", "wash", "wash 10 4 9", " wash 10 4 9 3", "wash 10 4 9 3 ", "wash 10 4 9 03", "show"):
            self.assert_no(NoText, desk, "work " + text)

    def test_then_as_a_work(self):
        desk = self.desk(PRESS)
        for text in (" 10 4 9 3", "Wash 10 4 9 3", "wash 0 4 9 3", "wash 10 4 11 3", "wash 10 4 9 3 oven:1-4",
                     "press 10 4 11 3"):
            self.assert_no(BadWork, desk, "work " + text)

    def test_then_in_the_duty(self):
        desk = self.desk(PRESS, WASH)
        self.assert_no(BadDuty, desk, "work " + PRESS)
        self.assert_no(BadDuty, desk, "work press 1 1 1 5000")
        self.assert_no(TooMany, desk, "work fold 1 1 1 5000")
        full = self.desk(*[f"{name} 900 1 9 0" for name in NAMES])
        self.assert_no(TooMany, full, "work more 900 1 9 0")
        self.assert_no(BadDuty, full, f"work {NAMES[0]} 900 1 9 0")
        self.assert_no(BadWork, full, "work more 0 1 9 0")
        self.assert_no(NoText, full, "work more 900 1 9")

    def test_names_are_refused(self):
        desk = self.desk(PRESS, WASH)
        for name in ("", "pres", "Press", "fold", "0", "press\n", "show"):
            self.assert_no(NoName, desk, "drop " + name)
            self.assert_no(NoName, desk, "slack " + name)
            self.assert_no(NoName, desk, "hardest " + name)
            self.assert_no(NoName, desk, "rank press " + name)
            self.assert_no(NoName, desk, "rank press wash press " + name)
        self.assert_no(NoName, desk, "rank  press wash")
        self.assert_no(NoName, desk, "rank press wash ")
        self.assert_no(NoName, Desk(), "drop press")
        self.assert_no(NoName, Desk(), "rank ")

    def test_an_order_is_refused(self):
        desk = self.desk(PRESS, WASH)
        for names in ("press", "wash", "press press", "press wash press", "press wash wash press"):
            self.assert_no(BadDuty, desk, "rank " + names)

    def test_no_name_comes_ahead_of_bad_duty(self):
        desk = self.desk(PRESS, WASH)
        self.assert_no(NoName, desk, "rank press press fold")
        self.assert_no(NoName, desk, "rank fold")


class Judge(DeskCase):
    def test_kept(self):
        desk = self.desk("wash 10 3 10 0", "press 15 4 14 2", "fold 50 5 40 1")
        self.assert_says(desk, "judge ranks", "kept 3 7 19")
        self.assert_says(desk, "judge due", "kept 40")

    def test_without_works(self):
        self.assert_says(Desk(), "judge ranks", "kept")
        self.assert_says(Desk(), "judge due", "kept 1")

    def assert_broken(self, desk, duty, how):
        told = desk.say("judge " + how)
        head, colon, text = told.partition(": ")
        word, place, turn = head.split(" ")
        self.assertEqual((word, colon), ("broken", ": "))
        row = read_row(duty, text)
        self.assertIsNone(first_wrong(duty, row))
        self.assertIn(int(place), missed(KINDS[how](duty), row))
        self.assertEqual(int(turn), due_at(duty, row[int(place)]))
        verdict = judge_ranks(duty) if how == "ranks" else judge_due(duty)
        self.assertEqual(told, verdict.told() + ": " + show_row(duty, verdict.row))

    def test_broken(self):
        texts = ["press 30 7 25 0", "wash 12 4 9 0"]
        duty = Duty([read_work(text) for text in texts])
        self.assertIsNone(answer(duty, 1))
        self.assert_broken(self.desk(*texts), duty, "ranks")
        texts = ["press 30 7 9 0", "wash 12 4 9 0"]
        self.assert_broken(self.desk(*texts), Duty([read_work(text) for text in texts]), "due")

    def test_refused(self):
        desk = self.desk(PRESS, HELD)
        self.assert_no(HoldsThings, desk, "judge due")
        self.assertTrue(desk.say("judge ranks").startswith("kept "))
        desk = self.desk("wash 2 1 2 1", "press 2 1 2 0")
        self.assert_no(TooMany, desk, "judge due")


class Rows(DeskCase):
    def test_the_document_s_own(self):
        desk = self.desk("press 30 7 25 0", "wash 12 4 9 0")
        self.assert_says(desk, "run ranks press 0 0 7; wash 0 0 4", "0 0-7; 1 7-11")
        self.assert_says(desk, "missed ranks press 0 0 7; wash 0 0 4", "1")

    def test_each_order(self):
        desk = self.desk("wash 10 3 9 0", "press 20 4 12 5", "fold 40 8 30 50")
        row = "fold 0 5 8; press 2 3 4; wash 5 0 3"
        self.assert_says(desk, "run ranks " + row, "2 5-8; 1 8-12; 0 12-20")
        self.assert_says(desk, "run due " + row, "1 5-9; 2 9-12; 0 12-20")
        self.assert_says(desk, "run coming " + row, "0 5-13; 1 13-17; 2 17-20")
        self.assert_says(desk, "missed ranks " + row, "none")
        self.assert_says(desk, "missed due " + row, "none")
        self.assert_says(desk, "missed coming " + row, "1 2")

    def test_without_comings(self):
        for desk in (Desk(), self.desk(PRESS)):
            for how in ("ranks", "due", "coming"):
                self.assert_says(desk, f"run {how} ", "")
                self.assert_says(desk, f"missed {how} ", "none")
            self.assert_says(desk, "full ", "none")

    def test_full(self):
        desk = self.desk("wash 10 9 6 0", "press 20 9 10 30")
        self.assert_says(desk, "full wash 0 0 6; press 0 0 4", "none")
        self.assert_says(desk, "full wash 4 0 7", "4 10")
        self.assert_says(desk, "full press 0 30 1", "30 10")

    def test_full_with_holds(self):
        desk = self.desk("fold 90 9 5 0 oven:1-4")
        self.assert_says(desk, "full fold 3 0 5", "none")
        self.assert_says(desk, "full fold 3 0 6", "3 8")

    def test_refused_by_the_row_s_text(self):
        desk = self.desk(PRESS, HELD)
        for head in HEADS:
            for text in (" ", "press", "press 0 0", "press 0 0 7 ", " press 0 0 7", "press 0 0 07", "nobody 0 0 01",
                         "press 0 0 7;", "press 0 0 7; ", "; ".join(["press 0 0 7"] * 201) + ";"):
                self.assert_no(NoText, desk, head + text)
            for text in ("wash 0 0 7", " 0 0 7", "press 0 0 7; wash 0 0 7", "; ".join(["wash 0 0 7"] * 201)):
                self.assert_no(NoName, desk, head + text)

    def test_then_holds_things_then_too_many_then_bad_row(self):
        held, plain = self.desk(PRESS, HELD), self.desk(PRESS)
        many, wrong = "; ".join(["press 0 0 7"] * 201), "press 0 0 7; press 9 0 7"
        for head in ("run due ", "run coming ", "missed due ", "missed coming "):
            for text in ("", "press 0 0 7", many, wrong):
                self.assert_no(HoldsThings, held, head + text)
        for head in ("run ranks ", "missed ranks ", "full "):
            self.assert_no(TooMany, held, head + many)
            self.assertEqual(self.assert_no(BadRow, held, head + wrong).place, 1)
        for head in HEADS:
            self.assert_no(TooMany, plain, head + many)
            self.assertEqual(self.assert_no(BadRow, plain, head + wrong).place, 1)
            self.assertEqual(self.assert_no(BadRow, plain, head + "press 0 0 8").place, 0)

    def test_two_hundred_comings(self):
        desk = self.desk("wash 10 3 9 0")
        text = "; ".join(f"wash {10 * k} 0 3" for k in range(200))
        self.assert_says(desk, "run ranks " + text, "; ".join(f"{k} {10 * k}-{10 * k + 3}" for k in range(200)))
        self.assert_says(desk, "missed due " + text, "none")
        self.assert_says(desk, "full " + text, "none")


class Asked(DeskCase):
    def test_find(self):
        desk = self.desk("slow 90 20 90 0", "quick 10 3 5 0", "mid 30 5 20 0")
        self.assert_says(desk, "find", "quick mid slow")
        self.assert_says(desk, "show", "slow 90 20 90 0; quick 10 3 5 0; mid 30 5 20 0")
        self.assert_says(Desk(), "find", "")

    def test_find_refused(self):
        desk = self.desk("a 90 5 8 0", "b 90 1 90 0", "c 90 5 8 0")
        self.assertEqual(self.assert_no(NoRanks, desk, "find").stuck, [0, 2])

    def test_slack(self):
        desk = self.desk("wash 20 3 10 0", "press 20 4 12 0")
        self.assert_says(desk, "slack wash", "5")
        self.assert_says(desk, "slack press", "5")
        self.assert_says(self.desk("a 10 8 8 0"), "slack a", "0")

    def test_slack_refused(self):
        desk = self.desk("a 90 1 90 0", "b 90 9 8 0")
        for name in ("a", "b"):
            self.assertEqual(self.assert_no(NotKept, desk, "slack " + name).at, 1)
        self.assert_no(NoName, desk, "slack c")

    def test_hardest(self):
        texts = ["wash 12 4 12 3 oven:0-2", "iron 40 3 30 100", "press 90 9 80 0 oven:1-6"]
        desk, duty = self.desk(*texts), Duty([read_work(text) for text in texts])
        for at, name in enumerate(("wash", "iron", "press")):
            told = desk.say("hardest " + name)
            place, colon, text = told.partition(": ")
            row = read_row(duty, text)
            self.assertEqual((colon, row[int(place)][0]), (": ", at))
            if answer(duty, at) is None:
                self.assertIn(int(place), missed(ByRank(duty), row))
            else:
                self.assertEqual(ends(ByRank(duty), row)[int(place)], ready(row[int(place)]) + answer(duty, at))
            self.assertEqual(told, f"{hardest(duty, at)[1]}: {show_row(duty, hardest(duty, at)[0])}")

    def test_sixty_figures(self):
        desk = self.desk(f"a {10 ** 58} {10 ** 58 - 1} {10 ** 58} 0", f"b {79 * 10 ** 58} 79 {79 * 10 ** 58} 0")
        self.assert_says(desk, "judge ranks", f"kept {10 ** 58 - 1} {79 * 10 ** 58}")
        self.assert_says(desk, "slack b", "0")
        self.assert_says(desk, "find", "a b")
        self.assert_says(desk, f"run ranks b {GREATEST} 0 79", f"0 {GREATEST}-{GREATEST + 79}")


class NoneOfThose(DeskCase):
    def test_other_words(self):
        desk = self.desk(PRESS, WASH)
        for line in ("", " ", "  ", "Show", "SHOW", "shows", "sho", "help", "quit", "works", "press", "judges ranks",
                     "ok", "none", "kept", "find\n", "show\t", "\tshow", "show;", "show; find", "ranks", "due"):
            self.assert_no(NoRow, desk, line)

    def test_lines_with_more_words(self):
        desk = self.desk(PRESS, WASH)
        for line in LINES_WITHOUT_MORE:
            for more in (" ", "  ", " press", " ranks", " show"):
                self.assert_no(NoRow, desk, line + more)
        for line in LINES_WITH_A_NAME:
            for more in (" press wash", " press ", "  press", "  ", " press press press"):
                self.assert_no(NoRow, desk, line + more)

    def test_lines_with_fewer_words(self):
        desk = self.desk(PRESS, WASH)
        for line in LINES_WITH_A_NAME + ["judge", "work", "run", "missed", "full", "run ranks", "run due", "run coming",
                                         "missed ranks", "missed due", "missed coming"]:
            self.assert_no(NoRow, desk, line)

    def test_a_blank_ahead(self):
        desk = self.desk(PRESS, WASH)
        for line in LINES_WITHOUT_MORE + ["drop press", "work " + HELD, "rank wash press", "full ", "run ranks "]:
            self.assert_no(NoRow, desk, " " + line)

    def test_other_orders(self):
        desk = self.desk(PRESS, WASH)
        for how in ("", "rank", "Ranks", "dues", "comings", "come", "ranks;", "press"):
            self.assert_no(NoRow, desk, f"run {how} press 0 0 7")
            self.assert_no(NoRow, desk, f"missed {how} press 0 0 7")
            self.assert_no(NoRow, desk, f"run {how} no row at all")
        for line in ("judge coming", "judge ", "judge rank", "judge Due", "judge press", "judge due ranks"):
            self.assert_no(NoRow, desk, line)
        self.assert_no(NoRow, desk, "run  ranks press 0 0 7")
        self.assert_no(NoRow, desk, "run press 0 0 7")

    def test_other_signs_in_the_place_of_a_blank(self):
        desk = self.desk(PRESS, WASH)
        for line in ("judge\tranks", "drop\npress", "rank\tpress", "work\t" + HELD, "full\tpress 0 0 7",
                     "run\tranks press 0 0 7", "run ranks\tpress 0 0 7", "full\n"):
            self.assert_no(NoRow, desk, line)

    def test_what_is_no_text(self):
        desk = self.desk(PRESS, WASH)
        for line in (None, 0, 7, True, 1.5, b"show", [], ["show"], ("show",), {}, object(), str):
            self.assert_no(NoRow, desk, line)


class Chance(DeskCase):
    """Each line's answer against what is asked of the duty itself."""

    def expected(self, ask):
        try:
            return ask()
        except DutyError as refusal:
            return type(refusal)

    def answered(self, desk, line):
        return self.expected(lambda: desk.say(line))

    def assert_alike(self, desk, duty, row):
        names = [duty.work(at).name for at in range(duty.size())]
        text = show_row(duty, row)
        self.assertEqual(desk.say("show"), "; ".join(show_work(duty.work(at)) for at in range(duty.size())))
        self.assertEqual(self.answered(desk, "find"), self.expected(lambda: " ".join(names[at] for at in ranked(duty))))
        for at, name in enumerate(names):
            self.assertEqual(self.answered(desk, "slack " + name), self.expected(lambda: str(slack(duty, at))))
        kept = self.expected(lambda: " ".join(["kept"] + [str(line) for line in paper(duty)]))
        self.assertEqual(self.answered(desk, "judge ranks") if kept != NotKept else kept, kept)
        for how, kind in KINDS.items():
            self.assertEqual(
                self.answered(desk, f"run {how} {text}"),
                self.expected(lambda: "; ".join(f"{place} {begin}-{until}"
                                                for place, begin, until in run(kind(duty), row))))
            self.assertEqual(
                self.answered(desk, f"missed {how} {text}"),
                self.expected(lambda: " ".join(str(place) for place in missed(kind(duty), row)) or "none"))
        self.assertEqual(desk.say("show"), "; ".join(show_work(duty.work(at)) for at in range(duty.size())))

    def test_by_chance(self):
        dice = chance(401)
        for time in range(120):
            small = some_duty(dice, dice.randint(0, 1) == 1, long=dice.choice([2, 5]))
            rows = some_row(dice, small)
            for by in (1, SCALE):
                duty, row = scaled(small, by), scaled_row(rows, by)
                desk = self.desk(*[show_work(duty.work(at)) for at in range(duty.size())])
                self.assert_alike(desk, duty, row)
                if duty.size() > 1:
                    places = dice.sample(range(duty.size()), duty.size())
                    names = " ".join(duty.work(at).name for at in places)
                    self.assertEqual(desk.say("rank " + names), "ok")
                    self.assert_alike(desk, duty.reordered(places), [])


class Independence(DeskCase):
    def test_the_same_question_has_the_same_answer(self):
        desk = self.desk(PRESS, WASH)
        for line in ("show", "judge ranks", "judge due", "find", "hardest wash", "run ranks press 0 0 7", "full "):
            self.assertEqual(self.expect(desk, line), self.expect(desk, line))

    def expect(self, desk, line):
        try:
            return desk.say(line)
        except DutyError as refusal:
            return type(refusal)

    def test_what_is_asked_changes_nothing(self):
        desk = self.desk("slow 90 20 90 0", "quick 10 3 5 0")
        for line in ("judge ranks", "judge due", "find", "hardest slow", "run due slow 0 0 7", "full "):
            desk.say(line)
            self.assertEqual(desk.say("show"), "slow 90 20 90 0; quick 10 3 5 0")
