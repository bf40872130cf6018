"""The bench: a row of comings, run by an order and told as stretches of turns."""

from dutyproof.comings import AT, LENGTH, checked, due_at, ready
from dutyproof.works import END

# Where a stretch, the tuple (place, from, until), has its parts.
PLACE = 0
FROM = 1
UNTIL = 2


def next_stop(work, done, length):
    # A coming that goes first stays first as it takes a thing, for this only lifts it; as it lets one go, it may fall.
    return min([length] + [hold[END] for hold in work.held() if hold[END] > done])


class Bench:
    def __init__(self, order, row):
        self.order = order
        self.row = row
        self.dones = [0 for coming in row]
        # The places of those that are not ready yet: the next one stands at the end, where it is easily taken off.
        self.later = sorted(range(len(row)), key=lambda place: ready(row[place]), reverse=True)
        self.waiting = []
        self.turn = 0
        self.stretches = []

    def next_ready(self):
        return ready(self.row[self.later[-1]])

    def let_in(self):
        if len(self.waiting) == 0:
            # Nobody has the turns up to then.
            self.turn = max(self.turn, self.next_ready())
        while len(self.later) > 0 and self.next_ready() <= self.turn:
            self.waiting.append(self.later.pop())

    def turns_for(self, place):
        # While these go by, nothing happens that could put another one first.
        coming = self.row[place]
        done = self.dones[place]
        turns = next_stop(self.order.duty.work(coming[AT]), done, coming[LENGTH]) - done
        if len(self.later) > 0:
            turns = min(turns, self.next_ready() - self.turn)
        return turns

    def tell(self, place, until):
        begin = self.turn
        # The bench never rests while a coming is on its way, so one that had the last stretch goes straight on.
        if len(self.stretches) > 0 and self.stretches[-1][PLACE] == place:
            begin = self.stretches.pop()[FROM]
        self.stretches.append((place, begin, until))

    def go_on(self):
        self.let_in()
        place = self.order.pick(self.row, self.waiting, self.dones)
        turns = self.turns_for(place)
        self.tell(place, self.turn + turns)
        self.turn += turns
        self.dones[place] += turns
        if self.dones[place] == self.row[place][LENGTH]:
            self.waiting.remove(place)


def run(order, row):
    checked(order.duty, row)
    bench = Bench(order, row)
    while len(bench.later) + len(bench.waiting) > 0:
        bench.go_on()
    return bench.stretches


def ends(order, row):
    last = {}
    for stretch in run(order, row):
        last[stretch[PLACE]] = stretch[UNTIL]
    return [last[place] for place in range(len(row))]


def missed(order, row):
    turns = ends(order, row)
    return [place for place, coming in enumerate(row) if turns[place] > due_at(order.duty, coming)]
