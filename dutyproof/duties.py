"""Duties: lists of works, numbered from the strongest to the weakest."""

from dutyproof.errors import BadDuty, NoName, TooMany
from dutyproof.wholes import is_whole, rounds_up
from dutyproof.works import Work

MOST_WORKS = 12
MOST_CROWD = 80


def own_works(works):
    if not isinstance(works, list):
        raise BadDuty("a duty is made of a list of works")
    if not all([isinstance(work, Work) for work in works]):
        raise BadDuty("a duty is made of works alone")
    if len(set([work.name for work in works])) != len(works):
        raise BadDuty("no two works of a duty have one name")
    return tuple(works)


def crowd_of(works):
    greatest = max([work.due for work in works], default=0)
    return sum([rounds_up(greatest + work.late, work.gap) for work in works])


class Duty:
    def __init__(self, works):
        self.works = own_works(works)
        if len(self.works) > MOST_WORKS:
            raise TooMany("a duty has at most twelve works")
        if crowd_of(self.works) > MOST_CROWD:
            raise TooMany("the crowd of a duty is at most 80")

    def size(self):
        return len(self.works)

    def work(self, at):
        return self.works[at]

    def number_of(self, name):
        # A name is compared with texts alone: what is no text may be equal to anything.
        if isinstance(name, str):
            for at, work in enumerate(self.works):
                if work.name == name:
                    return at
        raise NoName("no work of the duty has this name")

    def crowd(self):
        return crowd_of(self.works)

    def reordered(self, places):
        # Whole numbers are asked for first: True is equal to 1, and unlike kinds can't be sorted.
        if not isinstance(places, list) or not all([is_whole(place) for place in places]):
            raise BadDuty("works are put in order by a list of their numbers")
        if sorted(places) != list(range(self.size())):
            raise BadDuty("each number of a work stands just once in an order")
        return Duty([self.works[place] for place in places])

    def longer(self, at, more):
        works = list(self.works)
        old = self.works[at]
        works[at] = Work(old.name, old.gap, old.length + more, old.due, old.late, old.held())
        return Duty(works)
