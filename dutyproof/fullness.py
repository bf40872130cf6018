"""Rows that are too full: no order whatever keeps them."""

from dutyproof.comings import LENGTH, checked, due_at, ready


def full_until(duty, by_due, begin):
    # The sum grows from due to due, so each due is asked with all that is due by then and ready from the begin on.
    lengths = 0
    for coming in by_due:
        if ready(coming) >= begin:
            lengths += coming[LENGTH]
            if lengths > due_at(duty, coming) - begin:
                return due_at(duty, coming)
    return None


def too_full(duty, row):
    checked(duty, row)
    by_due = sorted(row, key=lambda coming: due_at(duty, coming))
    # It is enough to ask from the turns at which a coming is ready: from between two of them there is but more room.
    for begin in sorted(set([ready(coming) for coming in row])):
        until = full_until(duty, by_due, begin)
        if until is not None:
            return (begin, until)
    return None
