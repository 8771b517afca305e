"""Nets: houses with doors, and wires that join two doors."""

from nohalfway.errors import NoNet
from nohalfway.wholes import is_whole_within

MOST_HOUSES = 6
MOST_DOORS = 4


def are_counts(thing):
    if not isinstance(thing, list) or not 1 <= len(thing) <= MOST_HOUSES:
        return False
    return all([is_whole_within(doors, 1, MOST_DOORS) for doors in thing])


def is_pair(thing):
    return isinstance(thing, tuple) and len(thing) == 2


def is_door_among(counts, thing):
    if not is_pair(thing) or not is_whole_within(thing[0], 0, len(counts) - 1):
        return False
    return is_whole_within(thing[1], 0, counts[thing[0]] - 1)


def is_wire_among(counts, thing):
    if not is_pair(thing):
        return False
    # Doors are looked at ahead of their likeness, so that nothing but doors is ever compared.
    both = is_door_among(counts, thing[0]) and is_door_among(counts, thing[1])
    return both and thing[0] != thing[1]


def far_doors(counts, wires):
    far = {}
    for wire in wires:
        if not is_wire_among(counts, wire):
            raise NoNet("a wire is a tuple of two unlike doors of the net")
        if wire[0] in far or wire[1] in far:
            raise NoNet("a door is in one wire at most")
        far[wire[0]] = wire[1]
        far[wire[1]] = wire[0]
    return far


class Net:
    def __init__(self, counts, wires):
        if not are_counts(counts):
            raise NoNet("a net has one to six houses, a house has one to four doors")
        if not isinstance(wires, list):
            raise NoNet("wires are a list")
        self.many = len(counts)
        self.counts = tuple(counts)
        self.joined = tuple(wires)
        self.far = far_doors(self.counts, self.joined)

    def count(self, house):
        # Asked of a house that is not there, an index would fail, or tell of a house from the end.
        return self.counts[house] if 0 <= house < self.many else 0

    def wires(self):
        return list(self.joined)

    def beyond(self, door):
        return self.far.get(door)

    def outer(self):
        found = []
        for house in range(self.many):
            for number in range(self.counts[house]):
                if (house, number) not in self.far:
                    found.append((house, number))
        return found

    def is_door(self, thing):
        return is_door_among(self.counts, thing)

    def is_outer(self, thing):
        return self.is_door(thing) and thing not in self.far


def copied_net(net):
    return Net(list(net.counts), net.wires())
