"""The way of a letter by some books, from the outer door by which it comes in to its end or its ring."""

from nohalfway.books import refuse_unless_books, taken
from nohalfway.errors import NoAddress, NoDoor
from nohalfway.patterns import is_address


def onward(net, book, door, address):
    number = taken(book, door[1], address)
    out = None if number is None else book[number][2]
    if out is None:
        return ("drop", door[0])
    far = net.beyond((door[0], out))
    if far is None:
        return ("out", door[0], out)
    return ("at", far[0], far[1])


def walked(net, books, door, address):
    # Refuses nothing, so that what was looked through once is not looked through again for each letter.
    doors = []
    while door not in doors:
        doors.append(door)
        told = onward(net, books[door[0]], door, address)
        if told[0] != "at":
            return (doors, told)
        door = (told[1], told[2])
    return (doors, ("ring", doors.index(door)))


def way(net, books, door, address):
    refuse_unless_books(books, net)
    if not net.is_outer(door):
        raise NoDoor("a letter comes in by an outer door of the net")
    if not is_address(address):
        raise NoAddress("an address is a whole number from 0 to 15")
    return walked(net, books, door, address)
