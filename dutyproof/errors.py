"""The refusals: one class for each, all of them straight under DutyError."""


class DutyError(ValueError):
    pass


class BadWork(DutyError):
    pass


class BadDuty(DutyError):
    pass


class TooMany(DutyError):
    pass


class BadRow(DutyError):
    def __init__(self, place):
        DutyError.__init__(self, f"the row is wrong at place {place}")
        self.place = place


class HoldsThings(DutyError):
    pass


class NoName(DutyError):
    pass


class NotKept(DutyError):
    def __init__(self, at):
        DutyError.__init__(self, f"the work with number {at} has no answer")
        self.at = at


class NoRanks(DutyError):
    def __init__(self, stuck):
        # Python keeps all that an error is made with; the words take its place, so the asker's list is not kept.
        DutyError.__init__(self, "no order of the works keeps the duty")
        self.stuck = list(stuck)


class NoText(DutyError):
    pass


class NoRow(DutyError):
    pass
