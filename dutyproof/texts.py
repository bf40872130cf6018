"""Texts: works and rows, written and read."""

from dutyproof.comings import AT, COME, LATE, LENGTH
from dutyproof.errors import NoText
from dutyproof.works import END, START, THING, Work

FIGURES = "0123456789"
MOST_FIGURES = 60


def is_number(word):
    # Not by `isdigit`, which lets by figures beyond 0 to 9.
    if not 1 <= len(word) <= MOST_FIGURES or not all([sign in FIGURES for sign in word]):
        return False
    return word == "0" or not word.startswith("0")


def words_of(text):
    # A blank at an end, or two of them, make a word without signs; to split at any space would lose it.
    return text.split(" ")


def show_hold(hold):
    thing = hold[THING]
    start = hold[START]
    end = hold[END]
    return f"{thing}:{start}-{end}"


def show_work(work):
    numbers = [str(number) for number in (work.gap, work.length, work.due, work.late)]
    return " ".join([work.name] + numbers + [show_hold(hold) for hold in work.held()])


def read_hold(word):
    named = word.partition(":")
    bounds = named[2].partition("-")
    if not is_number(bounds[0]) or not is_number(bounds[2]):
        raise NoText("a hold is written as THING:START-END")
    return (named[0], int(bounds[0]), int(bounds[2]))


def read_work(text):
    if not isinstance(text, str):
        raise NoText("a work is read from a text")
    words = words_of(text)
    if len(words) < 5 or not all([is_number(word) for word in words[1:5]]):
        raise NoText("a work is written as NAME GAP LENGTH DUE LATE, with its holds behind")
    holds = [read_hold(word) for word in words[5:]]
    return Work(words[0], int(words[1]), int(words[2]), int(words[3]), int(words[4]), holds)


def show_coming(duty, coming):
    numbers = [str(number) for number in (coming[COME], coming[LATE], coming[LENGTH])]
    return " ".join([duty.work(coming[AT]).name] + numbers)


def show_row(duty, row):
    return "; ".join([show_coming(duty, coming) for coming in row])


def words_of_coming(part):
    words = words_of(part)
    if len(words) != 4 or not all([is_number(word) for word in words[1:]]):
        raise NoText("a coming is written as NAME COME LATE LENGTH")
    return words


def read_row(duty, text):
    if not isinstance(text, str):
        raise NoText("a row is read from a text")
    if text == "":
        return []
    # All parts are read ahead of the first name, for a text that is none is refused ahead of a name that is none.
    parts = [words_of_coming(part) for part in text.split("; ")]
    return [(duty.number_of(words[0]), int(words[1]), int(words[2]), int(words[3])) for words in parts]
