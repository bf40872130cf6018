"""Whole numbers: what is one, and how one is rounded up by another."""


def is_whole(thing):
    # To Python a truth is an int too.
    return isinstance(thing, int) and not isinstance(thing, bool)


def is_whole_from(thing, least):
    return is_whole(thing) and thing >= least


def rounds_up(top, bottom):
    # `//` rounds down whatever the sign, so what is added ahead of it makes it round up whatever the sign.
    return (top + bottom - 1) // bottom
