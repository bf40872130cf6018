"""Ranks found: an order of the works by which the duty is kept, where there is one."""

from dutyproof.answers import answer
from dutyproof.errors import NoRanks


def may_be_weakest(duty, left, weaker, at):
    stronger = [other for other in left if other != at]
    return answer(duty.reordered(stronger + [at] + weaker), len(stronger)) is not None


def some_weakest(duty, left, weaker):
    # Tried from the weakest on, so that an order handed in that keeps the duty is told as it is.
    for at in reversed(left):
        if may_be_weakest(duty, left, weaker, at):
            return at
    return None


def ranked(duty):
    # A work to which a line fits behind some others has one behind fewer of them too. So it never matters which one
    # is put last, and those that are left when none can be are the greatest set of stuck ones.
    left = list(range(duty.size()))
    weaker = []
    while len(left) > 0:
        at = some_weakest(duty, left, weaker)
        if at is None:
            raise NoRanks(left)
        left.remove(at)
        weaker = [at] + weaker
    return weaker
