"""Shared things: who holds them, how that lifts a coming's rank, and how long it holds stronger works up."""

from dutyproof.errors import HoldsThings
from dutyproof.works import END, START, THING


def ceilings(duty):
    found = {}
    for at in range(duty.size()):
        for hold in duty.work(at).held():
            # The strongest work is asked first, so the ceiling that is found first stays.
            found.setdefault(hold[THING], at)
    return found


def ceiling(duty, thing):
    return ceilings(duty).get(thing)


def refuse_holds(duty):
    if len(ceilings(duty)) > 0:
        raise HoldsThings("a work of the duty holds a shared thing")


def things_held(work, done):
    return [hold[THING] for hold in work.held() if hold[START] < done < hold[END]]


def lifted(at, things, tops):
    return min([at] + [tops[thing] for thing in things])


def holding(duty, at, done):
    return sorted(things_held(duty.work(at), done))


def rank(duty, at, done):
    return lifted(at, things_held(duty.work(at), done), ceilings(duty))


def turns_held(hold):
    # A hold is begun by a turn, so this one is over before anybody can be held up by it.
    return hold[END] - hold[START] - 1


def longest_hold(duty, at):
    # Told as a tuple (number of the weaker work, its hold), or None where no hold can keep this work waiting.
    tops = ceilings(duty)
    found = []
    for weaker in range(at + 1, duty.size()):
        found.extend([(weaker, hold) for hold in duty.work(weaker).held() if tops[hold[THING]] <= at])
    return max(found, key=lambda pair: turns_held(pair[1]), default=None)


def hold_up(duty, at):
    longest = longest_hold(duty, at)
    return 0 if longest is None else turns_held(longest[1])
