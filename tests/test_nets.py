import copy
import itertools
import random
import unittest

from nohalfway.errors import NoNet
from nohalfway.nets import Net

SOME_COUNTS = [
    [1], [2], [3], [4], [2, 3, 1], [4, 4], [1, 1, 1, 1, 1, 1], [4, 4, 4, 4, 4, 4], [1, 2, 3, 4], [4, 3, 2, 1, 2],
]
NO_NUMBERS = [True, False, None, "1", "", 1.0, [1], (1,), {}, object()]


def doors_of(counts):
    return [(house, door) for house, many in enumerate(counts) for door in range(many)]


def some_wires(counts, chance):
    doors = doors_of(counts)
    chance.shuffle(doors)
    many = chance.randint(0, len(doors) // 2)
    return [(doors[2 * k], doors[2 * k + 1]) for k in range(many)]


def some_nets():
    chance = random.Random(4)
    for counts in SOME_COUNTS:
        yield counts, []
        for _ in range(12):
            yield counts, some_wires(counts, chance)
    for many in range(1, 7):
        for _ in range(20):
            counts = [chance.randint(1, 4) for _ in range(many)]
            yield counts, some_wires(counts, chance)


class RightNets(unittest.TestCase):
    def test_every_right_net_tells_what_was_handed_in(self):
        for counts, wires in some_nets():
            with self.subTest(counts=counts, wires=wires):
                net = Net(counts, wires)
                self.assertEqual(net.many, len(counts))
                self.assertIs(type(net.many), int)
                self.assertEqual([net.count(house) for house in range(net.many)], counts)
                self.assertEqual(net.wires(), wires)
                self.assertIs(type(net.wires()), list)

    def test_beyond_from_either_end_and_none_of_an_outer_door(self):
        for counts, wires in some_nets():
            with self.subTest(counts=counts, wires=wires):
                net = Net(counts, wires)
                far = dict(wires)
                far.update((second, first) for first, second in wires)
                for door in doors_of(counts):
                    self.assertEqual(net.beyond(door), far.get(door))
                    if door not in far:
                        self.assertIsNone(net.beyond(door))

    def test_outer_doors_are_told_rising(self):
        for counts, wires in some_nets():
            with self.subTest(counts=counts, wires=wires):
                net = Net(counts, wires)
                inner = [door for wire in wires for door in wire]
                outer = [door for door in doors_of(counts) if door not in inner]
                self.assertEqual(net.outer(), outer)
                self.assertEqual(outer, sorted(outer))
                self.assertIs(type(net.outer()), list)
                for door in doors_of(counts):
                    self.assertIs(net.is_door(door), True)
                    self.assertIs(net.is_outer(door), door in outer)

    def test_numbers_around_the_doors_are_no_doors(self):
        for counts, wires in some_nets():
            with self.subTest(counts=counts, wires=wires):
                net = Net(counts, wires)
                right = doors_of(counts)
                for thing in itertools.product(range(-2, 8), range(-2, 6)):
                    self.assertIs(net.is_door(thing), thing in right)
                    if thing not in right:
                        self.assertIs(net.is_outer(thing), False)

    def test_wires_are_told_in_the_order_and_with_the_ends_handed_in(self):
        wires = [((2, 0), (1, 2)), ((0, 1), (1, 0))]
        net = Net([2, 3, 1], wires)
        self.assertEqual(net.wires(), [((2, 0), (1, 2)), ((0, 1), (1, 0))])
        self.assertEqual(net.beyond((2, 0)), (1, 2))
        self.assertEqual(net.beyond((1, 2)), (2, 0))
        self.assertEqual(net.outer(), [(0, 0), (1, 1)])

    def test_a_wire_may_join_two_doors_of_one_house(self):
        net = Net([3], [((0, 2), (0, 0))])
        self.assertEqual(net.beyond((0, 0)), (0, 2))
        self.assertEqual(net.beyond((0, 2)), (0, 0))
        self.assertIsNone(net.beyond((0, 1)))
        self.assertEqual(net.outer(), [(0, 1)])

    def test_two_wires_may_join_the_same_houses(self):
        net = Net([2, 2], [((0, 0), (1, 1)), ((0, 1), (1, 0))])
        self.assertEqual(net.outer(), [])
        self.assertEqual([net.beyond(door) for door in doors_of([2, 2])], [(1, 1), (1, 0), (0, 1), (0, 0)])

    def test_the_least_net(self):
        net = Net([1], [])
        self.assertEqual((net.many, net.count(0), net.wires(), net.outer()), (1, 1, [], [(0, 0)]))

    def test_the_greatest_net_with_every_door_in_a_wire(self):
        doors = doors_of([4] * 6)
        net = Net([4] * 6, list(zip(doors[:12], doors[12:])))
        self.assertEqual((net.many, net.outer(), len(net.wires())), (6, [], 12))
        self.assertFalse(any(net.is_outer(door) for door in doors))

    def test_of_a_house_or_a_door_beyond_the_net_nothing_is_refused(self):
        net = Net([2, 3, 1], [((0, 1), (1, 0))])
        for house in [-3, -1, 3, 6, 100]:
            self.assertEqual(net.count(house), 0)
        for door in [(-1, 0), (0, -1), (0, 2), (3, 0), (9, 9)]:
            self.assertIsNone(net.beyond(door))


class DoorsOfAnything(unittest.TestCase):
    def test_what_is_no_door(self):
        things = [
            (), (0,), (1,), (0, 0, 0), (1, 1, 0), (0, 0, None), [0, 0], [1, 1], [], [0], [(0, 0)], ((0, 0),),
            ((0, 0), (1, 1)), {0: 0}, {}, {0, 1}, frozenset([0, 1]), None, True, False, 0, 1, -1, 10 ** 400,
            "", "00", "0.0", "(0, 0)", b"00", 0.0, object(), Net, range(2), iter((0, 0)),
            (0.0, 0), (0, 0.0), ("0", "0"), (0, [0]), ([0], 0), ((0,), 0), ({}, {}), (0, {}), (object(), 0),
            (True, 0), (0, True), (False, 0), (0, False), (True, True), (False, False), (True, 1), (1, True),
            (None, 0), (0, None), (None, None), ("0", 0), (0, "0"), (0, ""),
            (-1, 0), (0, -1), (-1, -1), (0, 4), (1, 2), (2, 0), (6, 0),
            (10 ** 400, 0), (0, 10 ** 400), (0, -10 ** 400),
        ]
        for net in [Net([4, 2], []), Net([4, 2], [((0, 0), (1, 1)), ((0, 1), (1, 0))])]:
            for thing in things:
                with self.subTest(repr(thing)):
                    self.assertIs(net.is_door(thing), False)
                    self.assertIs(net.is_outer(thing), False)

    def test_a_thing_that_can_not_be_compared_is_no_door(self):
        class Stubborn:
            def __eq__(self, other):
                raise RuntimeError("not to be compared")

            __hash__ = None

        net = Net([2, 2], [((0, 0), (1, 0))])
        for thing in [Stubborn(), (Stubborn(), 0), (0, Stubborn())]:
            self.assertIs(net.is_door(thing), False)
            self.assertIs(net.is_outer(thing), False)
        for wires in [[(Stubborn(), Stubborn())], [Stubborn()], [((0, Stubborn()), (1, 1))]]:
            with self.assertRaises(NoNet):
                Net([2, 2], wires)


class RefusedNets(unittest.TestCase):
    def assert_refused(self, counts, wires):
        with self.subTest(counts=repr(counts), wires=repr(wires)):
            with self.assertRaises(NoNet):
                Net(counts, wires)

    def test_how_many_houses(self):
        self.assert_refused([], [])
        self.assert_refused([1] * 7, [])
        self.assert_refused([2] * 8, [((0, 0), (1, 0))])
        self.assert_refused([1] * 300, [])

    def test_how_many_doors(self):
        for wrong in [0, 5, -1, 6, 10 ** 400, -10 ** 400] + NO_NUMBERS:
            self.assert_refused([wrong], [])
            for place in range(3):
                counts = [2, 2, 2]
                counts[place] = wrong
                self.assert_refused(counts, [])

    def test_counts_that_are_no_list(self):
        for counts in [
            None, True, False, 0, 1, 3, "", "2", "123", (2, 3), (), {2: 1}, {}, {2}, range(1, 3), object(), b"\1",
        ]:
            self.assert_refused(counts, [])

    def test_wires_that_are_no_list(self):
        wire = ((0, 0), (1, 0))
        for wires in [
            None, True, False, 0, 1, "", "0.0-1.0", (), (wire,), wire, {}, {wire: 1}, {wire}, iter([wire]), object(),
        ]:
            self.assert_refused([2, 2], wires)

    def test_a_wire_that_is_no_tuple_of_two_doors(self):
        first, second, third = (0, 0), (1, 0), (1, 1)
        for wrong in [
            (), (first,), (first, second, third), [first, second], [], first, ((first, second),),
            {first: second}, {first, second}, frozenset([first, second]), None, True, 0, "0.0-1.0", "", object(),
            (first, None), (None, second), (first, "1.0"), (first, 1), (0, second), (first, True), (None, None),
            (first, [1, 0]), ([0, 0], second), (first, ()), (first, (1,)), ((0,), second),
            (first, (1, 0, 0)), ((0, 0, 0), second), (first, {1: 0}), ("00", "10"), ({}, {}), ([], []),
        ]:
            self.assert_refused([2, 2], [wrong])
            self.assert_refused([2, 2], [((0, 1), (1, 1)), wrong])
            self.assert_refused([2, 2], [wrong, ((0, 1), (1, 1))])

    def test_a_wire_that_joins_a_door_with_itself(self):
        self.assert_refused([1], [((0, 0), (0, 0))])
        for door in doors_of([2, 3]):
            self.assert_refused([2, 3], [(door, door)])

    def test_a_door_in_two_wires(self):
        right = ((0, 0), (1, 0))
        for wrong in [
            ((0, 0), (1, 0)), ((1, 0), (0, 0)), ((0, 0), (1, 1)),
            ((1, 1), (0, 0)), ((0, 1), (1, 0)), ((1, 0), (0, 1)),
        ]:
            self.assert_refused([3, 3], [right, wrong])
            self.assert_refused([3, 3], [wrong, right])
            self.assert_refused([3, 3], [right, ((0, 2), (1, 2)), wrong])

    def test_a_house_or_a_door_that_is_not_there(self):
        for wrong in [
            (2, 0), (3, 0), (6, 0), (-1, 0), (-2, 0), (0, 2), (1, 3), (0, 4), (0, -1), (1, -1),
            (10 ** 400, 0), (0, 10 ** 400),
        ]:
            self.assert_refused([2, 3], [(wrong, (1, 1))])
            self.assert_refused([2, 3], [((1, 1), wrong)])

    def test_what_is_no_number_in_a_numbers_place(self):
        for wrong in NO_NUMBERS:
            for place in range(4):
                numbers = [0, 1, 1, 1]
                numbers[place] = wrong
                self.assert_refused([2, 2], [((numbers[0], numbers[1]), (numbers[2], numbers[3]))])

    def test_truths_where_like_numbers_would_be_right(self):
        self.assert_refused([True, 2], [])
        self.assert_refused([2, 2], [((False, 0), (True, 0))])
        self.assert_refused([2, 2], [((0, False), (1, True))])


class HandedInAndTold(unittest.TestCase):
    def told(self, net):
        return (
            net.many, [net.count(house) for house in range(net.many)], net.wires(), net.outer(),
            [net.beyond(door) for door in doors_of([2, 3, 1])],
            [net.is_outer(door) for door in doors_of([2, 3, 1])],
        )

    def setUp(self):
        self.counts = [2, 3, 1]
        self.wires = [((0, 1), (1, 0)), ((1, 2), (2, 0))]
        self.net = Net(self.counts, self.wires)
        self.first = copy.deepcopy(self.told(self.net))

    def test_what_is_handed_in_stays_as_it_was(self):
        self.told(self.net)
        self.assertEqual(self.counts, [2, 3, 1])
        self.assertEqual(self.wires, [((0, 1), (1, 0)), ((1, 2), (2, 0))])

    def test_what_is_refused_stays_as_it_was(self):
        counts, wires = [2, 2], [((0, 1), (1, 0)), ((0, 1), (1, 1))]
        with self.assertRaises(NoNet):
            Net(counts, wires)
        self.assertEqual((counts, wires), ([2, 2], [((0, 1), (1, 0)), ((0, 1), (1, 1))]))

    def test_the_lists_may_be_changed_behind(self):
        self.counts[0] = 4
        self.counts.append(4)
        self.wires.reverse()
        self.wires.pop()
        self.wires.append(None)
        self.assertEqual(self.told(self.net), self.first)
        self.counts.clear()
        self.wires.clear()
        self.assertEqual(self.told(self.net), self.first)

    def test_the_lists_told_are_the_askers_own(self):
        for ask in [self.net.wires, self.net.outer]:
            early, late = ask(), ask()
            self.assertIsNot(early, late)
            early.append((9, 9))
            early[0] = None
            self.assertEqual(self.told(self.net), self.first)
            self.assertEqual(late, ask())
            ask().clear()
            self.assertEqual(self.told(self.net), self.first)

    def test_two_nets_of_the_same_lists_are_apart(self):
        other = Net(self.counts, self.wires)
        other.wires().clear()
        other.outer().clear()
        self.assertEqual(self.told(self.net), self.first)
        self.assertEqual(self.told(other), self.first)


if __name__ == "__main__":
    unittest.main()
