"""Sayings, which must be kept, whether books keep them, and books mixed of old ones and new ones."""

from nohalfway.books import refuse_unless_books
from nohalfway.errors import NoSaying
from nohalfway.patterns import addresses, is_pattern
from nohalfway.ways import walked
from nohalfway.wholes import is_whole_within


def is_saying(thing, net):
    if not isinstance(thing, tuple) or len(thing) not in (3, 4):
        return False
    if not isinstance(thing[0], str) or not is_pattern(thing[1]) or not net.is_outer(thing[2]):
        return False
    if len(thing) == 3:
        return thing[0] in ("leaves", "noring")
    if thing[0] == "comes":
        return net.is_outer(thing[3])
    return thing[0] in ("by", "never") and is_whole_within(thing[3], 0, net.many - 1)


def is_so_of(saying, doors, end):
    word = saying[0]
    if word == "comes":
        return end == ("out", saying[3][0], saying[3][1])
    if word == "leaves":
        return end[0] == "out"
    if word == "noring":
        return end[0] != "ring"
    comes_by = saying[3] in [door[0] for door in doors]
    return comes_by == (word == "by")


def is_so(net, books, saying, address):
    told = walked(net, books, saying[2], address)
    return is_so_of(saying, told[0], told[1])


def least_broken(net, books, saying):
    for address in addresses(saying[1]):
        if not is_so(net, books, saying, address):
            return address
    return None


def broken(net, books, saying):
    refuse_unless_books(books, net)
    if not is_saying(saying, net):
        raise NoSaying("a saying is a tuple of a word, a pattern, an outer door and what the word asks for")
    return least_broken(net, books, saying)


def mixed(old, new, houses):
    return [list(new[house] if house in houses else old[house]) for house in range(len(old))]
