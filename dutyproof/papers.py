"""Papers: one line for each work, by which anybody may check that a duty is kept by ranks."""

from dutyproof.answers import answer, fits
from dutyproof.errors import NotKept


def lets_by(duty, paper):
    if len(paper) != duty.size():
        return False
    return all([fits(duty, at, line) for at, line in enumerate(paper)])


def paper(duty):
    lines = []
    for at in range(duty.size()):
        line = answer(duty, at)
        if line is None:
            raise NotKept(at)
        lines.append(line)
    return lines
