"""The interface's names and arguments, as they stand in the document."""

import importlib
import inspect
import unittest

FUNCTIONS = {
    "wholes": ["is_whole(thing)", "rounds_up(top, bottom)"],
    "comings": ["ready(coming)", "due_at(duty, coming)", "first_wrong(duty, row)", "checked(duty, row)"],
    "things": ["ceiling(duty, thing)", "holding(duty, at, done)", "rank(duty, at, done)", "hold_up(duty, at)"],
    "bench": ["run(order, row)", "ends(order, row)", "missed(order, row)"],
    "answers": ["comings_in(work, span)", "load(duty, at, span)", "fits(duty, at, line)", "answer(duty, at)"],
    "papers": ["lets_by(duty, paper)", "paper(duty)"],
    "demand": ["demand(duty, span)", "asked(duty, span)", "crowded(duty, span)", "bends(duty, far)",
               "lets_by_due(duty, far)", "spans(duty)"],
    "breaking": ["hardest(duty, at)", "packed(duty, span)"],
    "verdicts": ["judge_ranks(duty)", "judge_due(duty)"],
    "ranks": ["ranked(duty)"],
    "slack": ["slack(duty, at)"],
    "fullness": ["too_full(duty, row)"],
    "texts": ["show_work(work)", "read_work(text)", "show_row(duty, row)", "read_row(duty, text)"],
}
ORDER_METHODS = ["rank_of(coming, done)", "holds(coming, done)", "pick(row, waiting, dones)"]
CLASSES = {
    "works": {"Work(name, gap, length, due=None, late=0, holds=None)": ["held()"]},
    "duties": {"Duty(works)": ["size()", "work(at)", "number_of(name)", "crowd()", "reordered(places)",
                               "longer(at, more)"]},
    "orders": {"Order(duty)": ORDER_METHODS, "ByRank(duty)": ORDER_METHODS, "ByDue(duty)": ORDER_METHODS,
               "ByComing(duty)": ORDER_METHODS},
    "verdicts": {"Verdict()": ["kept()", "told()"], "Kept(lines)": ["kept()", "told()"],
                 "Broken(row, place, turn)": ["kept()", "told()"]},
    "desk": {"Desk()": ["say(line)"]},
}


def module(name):
    return importlib.import_module("dutyproof." + name)


def written(name, thing):
    return name + str(inspect.signature(thing))


class Interface(unittest.TestCase):
    def test_functions(self):
        for file, lines in FUNCTIONS.items():
            for line in lines:
                with self.subTest(file=file, line=line):
                    name = line.partition("(")[0]
                    self.assertEqual(written(name, getattr(module(file), name)), line)

    def test_classes(self):
        for file, classes in CLASSES.items():
            for line, methods in classes.items():
                name = line.partition("(")[0]
                kind = getattr(module(file), name)
                with self.subTest(file=file, line=line):
                    self.assertEqual(written(name, kind), line)
                for method in methods:
                    with self.subTest(file=file, line=line, method=method):
                        word = method.partition("(")[0]
                        told = written(word, getattr(kind, word))
                        self.assertEqual(told.replace("(self, ", "(").replace("(self)", "()"), method)


if __name__ == "__main__":
    unittest.main()
