"""In which order houses may be changed one by one, or a paper that shows that there is none."""

from nohalfway.books import refuse_unless_books
from nohalfway.errors import NoSaying
from nohalfway.sayings import is_saying, least_broken, mixed

MOST_SAYINGS = 8
SAFE = ("safe",)


def are_sayings(thing, net):
    if not isinstance(thing, list) or len(thing) > MOST_SAYINGS:
        return False
    return all([is_saying(saying, net) for saying in thing])


def changers(old, new):
    return [house for house in range(len(old)) if old[house] != new[house]]


def verdict(net, old, new, sayings, houses):
    books = mixed(old, new, houses)
    for number, saying in enumerate(sayings):
        address = least_broken(net, books, saying)
        if address is not None:
            return ("bad", number, address)
    return SAFE


def is_safe(net, old, new, sayings, houses):
    return verdict(net, old, new, sayings, houses) == SAFE


def least_rest(judge, changing, done, verdicts):
    # A set that was looked at before led to no order, or the search would have ended there.
    if tuple(done) in verdicts:
        return None
    verdicts[tuple(done)] = judge(done)
    if verdicts[tuple(done)] != SAFE:
        return None
    if done == changing:
        return []
    for house in changing:
        if house not in done:
            rest = least_rest(judge, changing, sorted(done + [house]), verdicts)
            if rest is not None:
                return [house] + rest
    return None


def order(net, old, new, sayings):
    refuse_unless_books(old, net)
    refuse_unless_books(new, net)
    if not are_sayings(sayings, net):
        raise NoSaying("what must be kept is a list of at most eight sayings")
    verdicts = {}
    found = least_rest(lambda houses: verdict(net, old, new, sayings, houses), changers(old, new), [], verdicts)
    if found is not None:
        return ("order", found)
    # Every set that safe sets lead to was looked at, so for each safe one all that come next are here.
    return ("none", [(list(houses), told) for houses, told in verdicts.items()])
