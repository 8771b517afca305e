"""Papers: whether one shows, line by line, that houses can be changed in no order."""

from nohalfway.orders import changers
from nohalfway.patterns import fits
from nohalfway.sayings import is_so, mixed
from nohalfway.wholes import is_whole, is_whole_within


def is_set(thing, changing):
    if not isinstance(thing, list) or not all([is_whole(house) for house in thing]):
        return False
    return thing == [house for house in changing if house in thing]


def is_told(thing):
    # The word is looked at first, so that nothing but texts is ever compared.
    if not isinstance(thing, tuple) or len(thing) not in (1, 3) or not isinstance(thing[0], str):
        return False
    return thing[0] == ("safe" if len(thing) == 1 else "bad")


def is_line(thing, changing):
    if not isinstance(thing, tuple) or len(thing) != 2:
        return False
    return is_set(thing[0], changing) and is_told(thing[1])


def is_shown_bad(net, books, sayings, number, address):
    if not is_whole_within(number, 0, len(sayings) - 1):
        return False
    return fits(sayings[number][1], address) and not is_so(net, books, sayings[number], address)


def leads_on(houses, changing, sets):
    # From the set of all changers nothing leads on: were it safe, there might be an order.
    further = [sorted(houses + [house]) for house in changing if house not in houses]
    return further != [] and all([one in sets for one in further])


def is_paper(net, old, new, sayings, paper):
    changing = changers(old, new)
    if not isinstance(paper, list) or not all([is_line(line, changing) for line in paper]):
        return False
    sets = [houses for houses, told in paper]
    if [] not in sets or len(set([tuple(houses) for houses in sets])) != len(sets):
        return False
    for houses, told in paper:
        if len(told) == 1:
            right = leads_on(houses, changing, sets)
        else:
            right = is_shown_bad(net, mixed(old, new, houses), sayings, told[1], told[2])
        if not right:
            return False
    return True
