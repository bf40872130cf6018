"""Points 38 and 39, and point 2 for texts."""

from dutyproof.comings import first_wrong
from dutyproof.duties import Duty
from dutyproof.errors import BadWork, NoName, NoText
from dutyproof.texts import read_row, read_work, show_row, show_work
from dutyproof.works import Work
from helper import GREATEST, Case, chance, fields, scaled, scaled_row, some_duty, some_row

SCALE = 10 ** 57 + 1
NINES = "9" * 60
DUTY = Duty([Work("wash", 10, 4, 9, 3), Work("press", 30, 7, 25, 0, [("oven", 1, 4)]), Work("a", 5, 1)])
NO_NUMBERS = ["", "-1", "+1", "-0", "+0", "00", "01", "007", "1.0", "1e3", "0x1", "1_0", "1" + "0" * 60, "0" * 60,
              "a", "one", "1a", "a1", " 1", "1 ", "1\t", "\n1", "1\n", "1,", "1;", ";", ":", "-", "--1", "1-", "'1'"]
NO_TEXTS = [None, 0, 7, True, 1.5, b"press 30 7 25 0", [], ["press", "30", "7", "25", "0"], ("a",), {}, object(), str]


class ShowWork(Case):
    def test_the_document_s_own(self):
        work = Work("press", 30, 7, 25, 0, [("oven", 1, 4), ("belt", 2, 3)])
        self.assertEqual(show_work(work), "press 30 7 25 0 oven:1-4 belt:2-3")

    def test_without_holds(self):
        self.assertEqual(show_work(Work("wash", 12, 4)), "wash 12 4 12 0")
        self.assertEqual(show_work(Work("a", 1, 1, 1, 5)), "a 1 1 1 5")

    def test_the_holds_stand_in_their_order(self):
        self.assertEqual(show_work(Work("a", 9, 9, 9, 0, [("z", 5, 6), ("b", 0, 3), ("a", 1, 2)])),
                         "a 9 9 9 0 z:5-6 b:0-3 a:1-2")

    def test_sixty_figures(self):
        work = Work("a", GREATEST, GREATEST, GREATEST, GREATEST, [("ink", 0, GREATEST - 1)])
        self.assertEqual(show_work(work), f"a {NINES} {NINES} {NINES} {NINES} ink:0-{NINES[:-1]}8")


class ReadWork(Case):
    def assert_read(self, text, *told):
        work = read_work(text)
        self.assertIs(type(work), Work)
        self.assertEqual(fields(work), told)
        self.assertEqual(show_work(work), text)

    def test_the_document_s_own(self):
        self.assert_read("press 30 7 25 0 oven:1-4 belt:2-3", "press", 30, 7, 25, 0, [("oven", 1, 4), ("belt", 2, 3)])

    def test_ordinary(self):
        self.assert_read("wash 12 4 12 0", "wash", 12, 4, 12, 0, [])
        self.assert_read("a 1 1 1 0", "a", 1, 1, 1, 0, [])
        self.assert_read("abcdefgh 10 9 8 70 ink:0-1", "abcdefgh", 10, 9, 8, 70, [("ink", 0, 1)])

    def test_sixty_figures(self):
        self.assert_read(f"a {NINES} {NINES} {NINES} {NINES} ink:0-1", "a", GREATEST, GREATEST, GREATEST, GREATEST,
                         [("ink", 0, 1)])
        least = "1" + "0" * 59
        self.assert_read(f"a {least} {least} {least} {least}", "a", 10 ** 59, 10 ** 59, 10 ** 59, 10 ** 59, [])

    def test_too_few_words(self):
        for text in ("", " ", "press", "press 30", "press 30 7", "press 30 7 25", "30 7 25 0", "press\t30\t7\t25\t0",
                     "press\n30\n7\n25\n0", "press 30 7 25\t0"):
            with self.subTest(text=text):
                self.assert_refused(NoText, read_work, text)

    def test_two_blanks_and_blanks_at_an_end(self):
        for text in ("press  30 7 25 0", "press 30  7 25 0", "press 30 7 25  0", "press 30 7 25 0 ",
                     "press 30 7 25 0  ", "press 30 7 25 0  oven:1-4", "press 30 7 25 0 oven:1-4 ",
                     "  press 30 7 25 0", "press 30 7 25 "):
            with self.subTest(text=text):
                self.assert_refused(NoText, read_work, text)
        # With a blank ahead, the name stands where a number should.
        self.assert_refused(NoText, read_work, " press 30 7 25 0")

    def test_the_second_to_the_fifth_must_be_numbers(self):
        for number in NO_NUMBERS:
            for place in range(1, 5):
                words = ["press", "30", "7", "25", "0"]
                words[place] = number
                with self.subTest(words=words):
                    self.assert_refused(NoText, read_work, " ".join(words))
                    self.assert_refused(NoText, read_work, " ".join(words + ["oven:1-4"]))

    def test_nought_itself_is_a_number(self):
        self.assertEqual(read_work("press 30 7 25 0").late, 0)
        self.assert_refused(BadWork, read_work, "press 0 7 25 0")

    def test_each_further_word_must_be_a_hold(self):
        for word in ("oven", "oven:", "oven:1", "oven:1-", "oven:-4", "oven:1-4-5", "oven:1:4", "oven:1--4", "1-4", "-",
                     ":", ":-", "oven-1:4", "oven:1-4:", "oven::1-4", "ov:en:1-4", "oven;1-4", "oven:1 -4", "oven:1- 4",
                     "oven: 1-4", "oven:+1-4", "oven:1-+4", "oven:01-4", "oven:1-04", "oven:00-4", "oven:1-4.",
                     "oven:1-4\n", "oven:1-1" + "0" * 60, "oven:a-b", "oven:1-b", "7", ""):
            with self.subTest(word=word):
                self.assert_refused(NoText, read_work, "press 30 7 25 0 " + word)
                self.assert_refused(NoText, read_work, "press 30 7 25 0 ink:5-6 " + word)
                self.assert_refused(NoText, read_work, "press 30 7 25 0 " + word + " ink:5-6")

    def test_what_is_no_text(self):
        for thing in NO_TEXTS:
            with self.subTest(thing=thing):
                self.assert_refused(NoText, read_work, thing)

    def test_what_is_written_is_no_work(self):
        for text in (" 30 7 25 0", "Press 30 7 25 0", "press1 30 7 25 0", "abcdefghi 30 7 25 0", "7 30 7 25 0",
                     "press 0 7 25 0", "press 30 0 25 0", "press 30 7 0 0", "press 30 7 31 0", "press\t 30 7 25 0",
                     "press: 30 7 25 0", "press 30 7 25 0 :1-4", "press 30 7 25 0 Oven:1-4", "press 30 7 25 0 a-b:1-4",
                     "press 30 7 25 0 oven:4-4", "press 30 7 25 0 oven:4-1", "press 30 7 25 0 oven:1-7",
                     "press 30 7 25 0 oven:1-4 belt:2-5", "press 30 7 25 0 oven:1-4 oven:2-3",
                     "press 30 7 25 0" + " ink:1-2" * 2, "press 30 9 25 0 a:0-1 b:1-2 c:2-3 d:3-4 e:4-5 f:5-6 g:6-7",
                     f"press {NINES} 7 {NINES} 0 oven:0-{NINES}"):
            with self.subTest(text=text):
                self.assert_refused(BadWork, read_work, text)

    def test_no_text_comes_ahead_of_bad_work(self):
        for text in ("Press 30 7 25 00", "press 0 7 25 -1", "press 30 7 31 0 oven", "press 30 0 25 0 oven:1-4 ",
                     "press 30 7 25 0 oven:4-1 belt", " 30 7 25", "press 30 7 25 0 oven:9-9 ink:01-2"):
            with self.subTest(text=text):
                self.assert_refused(NoText, read_work, text)

    def test_what_is_written_is_read_to_the_same_work(self):
        dice = chance(381)
        for time in range(150):
            duty = some_duty(dice, long=12)
            for by in (1, SCALE):
                large = scaled(duty, by)
                for at in range(duty.size()):
                    work = large.work(at)
                    self.assertEqual(fields(read_work(show_work(work))), fields(work))


class ShowRow(Case):
    def test_the_document_s_own(self):
        self.assertEqual(show_row(DUTY, [(1, 0, 0, 7), (0, 3, 2, 4)]), "press 0 0 7; wash 3 2 4")

    def test_without_comings(self):
        self.assertEqual(show_row(DUTY, []), "")
        self.assertEqual(show_row(Duty([]), []), "")

    def test_one_coming(self):
        self.assertEqual(show_row(DUTY, [(2, 17, 0, 1)]), "a 17 0 1")

    def test_sixty_figures(self):
        self.assertEqual(show_row(DUTY, [(0, GREATEST, 3, 4)]), f"wash {NINES} 3 4")

    def test_more_than_two_hundred(self):
        row = [(2, 5 * place, 0, 1) for place in range(300)]
        self.assertEqual(show_row(DUTY, row), "; ".join(f"a {5 * place} 0 1" for place in range(300)))


class ReadRow(Case):
    def assert_read(self, text, row):
        told = read_row(DUTY, text)
        self.assert_list(told, tuple)
        self.assertEqual(told, row)
        self.assertEqual(show_row(DUTY, told), text)

    def test_the_document_s_own(self):
        self.assert_read("press 0 0 7; wash 3 2 4", [(1, 0, 0, 7), (0, 3, 2, 4)])

    def test_without_comings(self):
        self.assert_read("", [])
        self.assertEqual(read_row(Duty([]), ""), [])

    def test_sixty_figures(self):
        self.assert_read(f"wash {NINES} {NINES} {NINES}", [(0, GREATEST, GREATEST, GREATEST)])

    def test_what_is_read_need_not_be_legal(self):
        row = [(0, 50, 9, 99), (0, 0, 0, 0), (0, 0, 4, 5)]
        self.assertIsNotNone(first_wrong(DUTY, row))
        self.assert_read("wash 50 9 99; wash 0 0 0; wash 0 4 5", row)

    def test_more_than_two_hundred(self):
        self.assertEqual(len(read_row(DUTY, "; ".join(["a 0 0 1"] * 300))), 300)

    def test_parts_that_are_not_four_words(self):
        for text in (" ", "  ", ";", "; ", " ;", "wash", "wash 0", "wash 0 0", "wash 0 0 1 ", " wash 0 0 1",
                     "wash 0 0 1 0", "wash 0 0 1 wash 0 0 1", "wash  0 0 1", "wash 0  0 1", "wash 0 0 1;",
                     "wash 0 0 1; ", "; wash 0 0 1", "wash 0 0 1;wash 9 0 1", "wash 0 0 1 ; wash 9 0 1",
                     "wash 0 0 1;  wash 9 0 1", "wash 0 0 1; ; wash 9 0 1", "wash 0 0 1;; wash 9 0 1",
                     "wash 0 0 1;\nwash 9 0 1", "wash 0 0 1, wash 9 0 1", "wash\t0\t0\t1", "0 0 1", "wash 0 0 1\n"):
            with self.subTest(text=text):
                self.assert_refused(NoText, read_row, DUTY, text)

    def test_the_last_three_must_be_numbers(self):
        for number in NO_NUMBERS:
            for place in range(1, 4):
                words = ["wash", "3", "2", "4"]
                words[place] = number
                text = " ".join(words)
                with self.subTest(text=text):
                    for whole in (text, "press 0 0 7; " + text, text + "; press 0 0 7"):
                        self.assert_refused(NoText, read_row, DUTY, whole)

    def test_what_is_no_text(self):
        for thing in NO_TEXTS + [[(0, 0, 0, 1)]]:
            with self.subTest(thing=thing):
                self.assert_refused(NoText, read_row, DUTY, thing)

    def test_names_that_no_work_has(self):
        for name in ("", "was", "washs", "Wash", ";wash", "w;h", "0", "oven", "press;wash", "wash\t", "\nwash"):
            with self.subTest(name=name):
                self.assert_refused(NoName, read_row, DUTY, name + " 0 0 1")
                self.assert_refused(NoName, read_row, DUTY, "wash 0 0 1; " + name + " 9 0 1")
                self.assert_refused(NoName, read_row, DUTY, name + " 0 0 1; wash 9 0 1")
        self.assert_refused(NoName, read_row, Duty([]), "wash 0 0 1")

    def test_a_name_with_a_semicolon_at_its_end_is_parted_there(self):
        self.assert_refused(NoText, read_row, DUTY, "wash; 0 0 1")

    def test_no_text_comes_ahead_of_no_name(self):
        for text in ("none 0 0", "none 0 0 1; wash 0 0", "none 0 0 01", "none 0 0 1; wash 9 0 -1", "none 0 0 1; ",
                     "none 0 0 1; none"):
            with self.subTest(text=text):
                self.assert_refused(NoText, read_row, DUTY, text)

    def test_the_name_is_read_for_the_duty(self):
        self.assertEqual(read_row(DUTY.reordered([2, 1, 0]), "wash 0 0 1; a 0 0 1"), [(2, 0, 0, 1), (0, 0, 0, 1)])

    def test_what_is_written_is_read_to_the_same_row(self):
        dice = chance(391)
        for time in range(150):
            duty = some_duty(dice)
            row = some_row(dice, duty, 20)
            for by in (1, SCALE):
                large, rows = scaled(duty, by), scaled_row(row, by)
                self.assertEqual(read_row(large, show_row(large, rows)), rows)


class Independence(Case):
    def test_what_is_handed_in_is_not_changed(self):
        row = [(1, 0, 0, 7), (0, 3, 2, 4)]
        show_row(DUTY, row)
        self.assertEqual(row, [(1, 0, 0, 7), (0, 3, 2, 4)])

    def test_each_list_that_is_told_is_the_asker_s_own(self):
        for text in ("", "press 0 0 7; wash 3 2 4"):
            told = read_row(DUTY, text)
            before = list(told)
            told.append(None)
            self.assertEqual(read_row(DUTY, text), before)
