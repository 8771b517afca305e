"""Whole numbers, as the other modules ask for them."""


def is_whole(thing):
    # To Python a truth is an int; here it is no whole number.
    return isinstance(thing, int) and not isinstance(thing, bool)


def is_whole_within(thing, least, greatest):
    return is_whole(thing) and least <= thing <= greatest
