"""Orders: which of the comings that wait has the bench first."""

from dutyproof.comings import AT, COME, due_at
from dutyproof.things import ceilings, lifted, refuse_holds, things_held


class Order:
    def __init__(self, duty):
        self.duty = duty

    def rank_of(self, coming, done):
        raise NotImplementedError("each order has a rank of its own")

    def holds(self, coming, done):
        return False

    def pick(self, row, waiting, dones):
        return min(waiting, key=lambda place: self.standing(row[place], dones[place]) + (place,))

    def standing(self, coming, done):
        return (self.rank_of(coming, done), 0 if self.holds(coming, done) else 1)


class ByRank(Order):
    def __init__(self, duty):
        Order.__init__(self, duty)
        # A duty never changes, so its ceilings are gathered once and not at each turn.
        self.tops = ceilings(duty)

    def rank_of(self, coming, done):
        return lifted(coming[AT], things_held(self.duty.work(coming[AT]), done), self.tops)

    def holds(self, coming, done):
        return len(things_held(self.duty.work(coming[AT]), done)) > 0


class ByDue(Order):
    def __init__(self, duty):
        refuse_holds(duty)
        Order.__init__(self, duty)

    def rank_of(self, coming, done):
        return due_at(self.duty, coming)


class ByComing(Order):
    def __init__(self, duty):
        refuse_holds(duty)
        Order.__init__(self, duty)

    def rank_of(self, coming, done):
        return coming[COME]
