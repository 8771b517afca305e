"""Addresses, and the patterns that they fit."""

from nohalfway.wholes import is_whole_within

GREATEST_ADDRESS = 15
WORTHS = (8, 4, 2, 1)
SIGNS = ("0", "1", "x")


def is_address(thing):
    return is_whole_within(thing, 0, GREATEST_ADDRESS)


def is_pattern(thing):
    if not isinstance(thing, str) or len(thing) != len(WORTHS):
        return False
    return all([sign in SIGNS for sign in thing])


def fits(pattern, address):
    # Only an address has just four figures: a number beyond would be taken for another one.
    if not is_pattern(pattern) or not is_address(address):
        return False
    return all([sign in ("x", str(address // worth % 2)) for sign, worth in zip(pattern, WORTHS)])


def addresses(pattern):
    return [address for address in range(GREATEST_ADDRESS + 1) if fits(pattern, address)]
