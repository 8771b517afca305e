"""What a letter may meet while houses are changed in a told row, each at any time."""

from nohalfway.patterns import addresses
from nohalfway.sayings import is_so_of, mixed
from nohalfway.ways import onward
from nohalfway.wholes import is_whole

RING = ("ring",)


# A letter's weavings are countless where it goes round, but there are few spots, tuples (door, number), to which they
# lead, and behind a spot it is all one how the letter came there: so one weaving is kept for each spot.
# Where a house is shunned, weavings that have a door of it are left out.
class Weaver:
    def __init__(self, net, stages, door, address, shunned):
        self.net = net
        self.stages = stages
        self.address = address
        self.shunned = shunned
        self.woven = {}
        self.told = {}
        self.weave(door)

    def weave(self, door):
        # Near spots go ahead of far ones, so that no weaving is longer than it must be.
        waiting = self.entered(door, [])
        while waiting != []:
            further = []
            for spot in waiting:
                told = onward(self.net, self.stages[spot[1]][spot[0][0]], spot[0], self.address)
                self.told[spot] = told
                if told[0] == "at":
                    further.extend(self.entered((told[1], told[2]), self.woven[spot]))
            waiting = further

    def entered(self, door, ahead):
        if door[0] == self.shunned:
            return []
        least = ahead[-1] if ahead != [] else 0
        spots = [(door, number) for number in range(least, len(self.stages)) if (door, number) not in self.woven]
        for spot in spots:
            self.woven[spot] = ahead + [spot[1]]
        return spots

    def behind(self, spot):
        told = self.told[spot]
        if told[0] != "at" or told[1] == self.shunned:
            return None
        return ((told[1], told[2]), spot[1])

    def round_from(self, spot):
        gone = [spot]
        further = self.behind(spot)
        while further is not None and further not in gone:
            gone.append(further)
            further = self.behind(further)
        return gone if further == spot else []

    def met(self):
        found = {}
        for spot, numbers in self.woven.items():
            found.setdefault(("at", spot[0][0]), numbers)
            if self.told[spot][0] != "at":
                found.setdefault(self.told[spot], numbers)
            ring = self.round_from(spot)
            if ring != []:
                found.setdefault(RING, numbers[:-1] + [spot[1]] * len(ring))
        return found


def stages_of(old, new, row):
    return [mixed(old, new, row[:number]) for number in range(len(row) + 1)]


def met_with_leadings(net, old, new, row, door, address):
    return Weaver(net, stages_of(old, new, row), door, address, None).met()


def meets(net, old, new, row, door, address):
    return sorted(met_with_leadings(net, old, new, row, door, address))


def leading(net, old, new, row, door, address, goal):
    # To Python a truth is like a number, so that it would be found among the things that may be met.
    if not all([is_whole(number) for number in goal[1:]]):
        return None
    return met_with_leadings(net, old, new, row, door, address).get(goal)


def is_so_throughout(net, stages, saying, address):
    shunned = saying[3] if saying[0] == "by" else None
    things = list(Weaver(net, stages, saying[2], address, shunned).met())
    if saying[0] == "never":
        return ("at", saying[3]) not in things
    # For by only weavings without a door of the house are here, so that any end is against it; the others ask for none.
    return all([is_so_of(saying, [], thing) for thing in things if thing[0] != "at"])


def broken_throughout(net, old, new, row, saying):
    stages = stages_of(old, new, row)
    for address in addresses(saying[1]):
        if not is_so_throughout(net, stages, saying, address):
            return address
    return None
