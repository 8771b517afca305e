"""Books of rows, one for each house, and the row by which a letter goes."""

from nohalfway.errors import NoBooks
from nohalfway.patterns import fits, is_pattern
from nohalfway.wholes import is_whole_within

MOST_ROWS = 12


def is_number_or_none(thing, doors):
    return thing is None or is_whole_within(thing, 0, doors - 1)


def is_row(thing, doors):
    if not isinstance(thing, tuple) or len(thing) != 3:
        return False
    if not is_pattern(thing[0]):
        return False
    return is_number_or_none(thing[1], doors) and is_number_or_none(thing[2], doors)


def is_book(thing, doors):
    if not isinstance(thing, list) or len(thing) > MOST_ROWS:
        return False
    return all([is_row(row, doors) for row in thing])


def is_books(thing, net):
    if not isinstance(thing, list) or len(thing) != net.many:
        return False
    return all([is_book(book, net.count(house)) for house, book in enumerate(thing)])


def refuse_unless_books(thing, net):
    if not is_books(thing, net):
        raise NoBooks("books are a list of one book for each house")


def taken(book, door, address):
    for number, row in enumerate(book):
        if (row[1] is None or row[1] == door) and fits(row[0], address):
            return number
    return None
