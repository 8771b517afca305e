import copy
import itertools
import random
import unittest

from model import ANYTHING, Stubborn, drawn_books, drawn_net, way_of
from nohalfway.errors import NoAddress, NoBooks, NoDoor
from nohalfway.nets import Net
from nohalfway.ways import way

# Three houses in a row; outer doors 0.0 and 1.1 and 2.1.
NET = Net([2, 3, 2], [((0, 1), (1, 0)), ((1, 2), (2, 0))])
BOOKS = [
    [("1xxx", 0, 1), ("01xx", None, 0), ("xxxx", 1, 0)],
    [("11xx", 0, 2), ("10x1", None, 0), ("10x0", None, 1), ("xxxx", 1, None)],
    [("1111", None, None), ("1110", None, 1), ("1101", None, 0)],
]


class Ends(unittest.TestCase):
    def assert_way(self, door, address, doors, end, net=NET, books=BOOKS):
        before = copy.deepcopy(books)
        told = way(net, books, door, address)
        self.assertEqual(told, (doors, end))
        self.assertEqual([type(told), type(told[0]), type(told[1])], [tuple, list, tuple])
        self.assertTrue(all(type(door) is tuple for door in told[0]))
        self.assertEqual(books, before)

    def test_out_by_an_outer_door(self):
        self.assert_way((0, 0), 14, [(0, 0), (1, 0), (2, 0)], ("out", 2, 1))
        self.assert_way((0, 0), 8, [(0, 0), (1, 0)], ("out", 1, 1))
        self.assert_way((1, 1), 9, [(1, 1), (0, 1)], ("out", 0, 0))

    def test_out_by_the_door_by_which_it_came_in(self):
        self.assert_way((0, 0), 4, [(0, 0)], ("out", 0, 0))
        self.assert_way((1, 1), 8, [(1, 1)], ("out", 1, 1))

    def test_back_by_the_wire_and_out_where_it_came_in(self):
        self.assert_way((0, 0), 9, [(0, 0), (1, 0), (0, 1)], ("out", 0, 0))

    def test_dropped_by_a_row(self):
        self.assert_way((0, 0), 15, [(0, 0), (1, 0), (2, 0)], ("drop", 2))
        self.assert_way((1, 1), 0, [(1, 1)], ("drop", 1))

    def test_dropped_by_no_row(self):
        self.assert_way((0, 0), 0, [(0, 0)], ("drop", 0))
        self.assert_way((0, 0), 12, [(0, 0), (1, 0), (2, 0)], ("drop", 2))
        self.assert_way((2, 1), 3, [(2, 1)], ("drop", 2))
        self.assert_way((0, 0), 5, [(0, 0)], ("drop", 0), books=[[], [], []])

    def test_dropped_by_no_row_for_the_door(self):
        self.assert_way((0, 0), 13, [(0, 0), (1, 0), (2, 0), (1, 2)], ("drop", 1))

    def test_the_net_of_one_door(self):
        net = Net([1], [])
        self.assert_way((0, 0), 0, [(0, 0)], ("out", 0, 0), net, [[("xxxx", None, 0)]])
        self.assert_way((0, 0), 0, [(0, 0)], ("drop", 0), net, [[("xxxx", None, None)]])
        self.assert_way((0, 0), 0, [(0, 0)], ("drop", 0), net, [[]])

    def test_a_house_twice_by_unlike_doors(self):
        net = Net([3], [((0, 1), (0, 2))])
        books = [[("xxxx", 0, 1), ("0xxx", 2, 0), ("10xx", 2, None), ("11xx", 2, 2), ("11xx", 1, 0)]]
        self.assert_way((0, 0), 0, [(0, 0), (0, 2)], ("out", 0, 0), net, books)
        self.assert_way((0, 0), 8, [(0, 0), (0, 2)], ("drop", 0), net, books)
        self.assert_way((0, 0), 12, [(0, 0), (0, 2), (0, 1)], ("out", 0, 0), net, books)


class Rings(unittest.TestCase):
    def test_a_ring_between_two_houses(self):
        books = [[("xxxx", None, 1)], [("xxxx", None, 0)], []]
        self.assertEqual(way(NET, books, (0, 0), 5), ([(0, 0), (1, 0), (0, 1)], ("ring", 1)))
        self.assertEqual(way(NET, books, (1, 1), 5), ([(1, 1), (0, 1), (1, 0)], ("ring", 1)))

    def test_a_ring_within_one_house(self):
        net = Net([3], [((0, 1), (0, 2))])
        self.assertEqual(way(net, [[("xxxx", None, 1)]], (0, 0), 0), ([(0, 0), (0, 2)], ("ring", 1)))
        self.assertEqual(way(net, [[("xxxx", None, 2)]], (0, 0), 0), ([(0, 0), (0, 1)], ("ring", 1)))
        books = [[("xxxx", 0, 1), ("xxxx", 2, 2), ("xxxx", 1, 1)]]
        self.assertEqual(way(net, books, (0, 0), 0), ([(0, 0), (0, 2), (0, 1)], ("ring", 1)))

    def test_a_ring_that_begins_later(self):
        net = Net([2, 2, 2, 3], [((0, 1), (1, 0)), ((1, 1), (2, 0)), ((2, 1), (3, 0)), ((3, 1), (3, 2))])
        books = [[("xxxx", None, 1)], [("xxxx", None, 1)], [("xxxx", None, 1)], [("xxxx", None, 1)]]
        doors = [(0, 0), (1, 0), (2, 0), (3, 0), (3, 2)]
        self.assertEqual(way(net, books, (0, 0), 9), (doors, ("ring", 4)))
        books[3] = [("xxxx", 0, 1), ("xxxx", 2, 0)]
        books[2] = [("xxxx", 0, 1), ("xxxx", 1, 1)]
        doors = [(0, 0), (1, 0), (2, 0), (3, 0), (3, 2), (2, 1)]
        self.assertEqual(way(net, books, (0, 0), 9), (doors, ("ring", 3)))

    def test_the_ring_of_one_address_alone(self):
        books = [[("xxxx", None, 1)], [("0101", None, 0), ("xxxx", None, 1)], []]
        for address in range(16):
            right = ([(0, 0), (1, 0)], ("out", 1, 1))
            if address == 5:
                right = ([(0, 0), (1, 0), (0, 1)], ("ring", 1))
            self.assertEqual(way(NET, books, (0, 0), address), right)

    def test_long_ways_and_long_rings(self):
        source = random.Random(23)
        doors = [(house, number) for house in range(6) for number in range(4)]
        met = {}
        while set(met) != {"out", "ring"}:
            source.shuffle(doors)
            net = Net([4] * 6, [(doors[2 * place], doors[2 * place + 1]) for place in range(11)])
            books = [[("xxxx", number, source.randrange(4)) for number in range(4)] for house in range(6)]
            right = way_of(net, books, doors[22], 5)
            if len(right[0]) >= 16:
                self.assertEqual(way(net, books, doors[22], 5), right)
                met[right[1][0]] = True


class AgainstTheModel(unittest.TestCase):
    def test_drawn_nets_and_books(self):
        source = random.Random(77)
        ends = {"out": 0, "drop": 0, "ring": 0}
        for count in range(300):
            net = drawn_net(source, Net)
            books = drawn_books(source, net, source.choice([2, 4, 12]))
            before = copy.deepcopy(books)
            for door, address in itertools.product(net.outer(), range(16)):
                told = way(net, books, door, address)
                self.assertEqual(told, way_of(net, books, door, address))
                ends[told[1][0]] += 1
            self.assertEqual(books, before)
        self.assertTrue(all(count > 100 for count in ends.values()), ends)


class AskedAgain(unittest.TestCase):
    def test_the_list_is_the_askers_own(self):
        for address in range(16):
            early = way(NET, BOOKS, (0, 0), address)
            kept = copy.deepcopy(early)
            late = way(NET, BOOKS, (0, 0), address)
            self.assertIsNot(early[0], late[0])
            early[0].append((9, 9))
            early[0][0] = None
            self.assertEqual(late, kept)
            late[0].clear()
            self.assertEqual(way(NET, BOOKS, (0, 0), address), kept)

    def test_books_that_are_changed_between(self):
        books = copy.deepcopy(BOOKS)
        self.assertEqual(way(NET, books, (0, 0), 14)[1], ("out", 2, 1))
        books[2][1] = ("1110", None, None)
        self.assertEqual(way(NET, books, (0, 0), 14)[1], ("drop", 2))
        books[1].insert(0, ("xxxx", None, 1))
        self.assertEqual(way(NET, books, (0, 0), 14), ([(0, 0), (1, 0)], ("out", 1, 1)))
        books[0] = [("xxxx", None, 1)]
        books[1].pop(0)
        books[1][0] = ("11xx", 0, 0)
        self.assertEqual(way(NET, books, (0, 0), 14), ([(0, 0), (1, 0), (0, 1)], ("ring", 1)))
        books[0].clear()
        self.assertEqual(way(NET, books, (0, 0), 14), ([(0, 0)], ("drop", 0)))
        with self.assertRaises(NoBooks):
            books.pop()
            way(NET, books, (0, 0), 14)
        books.append([])
        self.assertEqual(way(NET, books, (0, 0), 14), ([(0, 0)], ("drop", 0)))

    def test_two_nets_with_the_same_books(self):
        other = Net([2, 3, 2], [((0, 1), (2, 0)), ((1, 2), (1, 0))])
        books = [[("xxxx", 0, 1)], [("xxxx", None, 1)], [("xxxx", None, 1)]]
        self.assertEqual(way(NET, books, (0, 0), 0), ([(0, 0), (1, 0)], ("out", 1, 1)))
        self.assertEqual(way(other, books, (0, 0), 0), ([(0, 0), (2, 0)], ("out", 2, 1)))
        self.assertEqual(way(NET, books, (0, 0), 0), ([(0, 0), (1, 0)], ("out", 1, 1)))


NO_BOOKS = ANYTHING + [
    [], [[], []], [[], [], [], []], ([], [], []), [[], [], None], [[], (), []], [[("xxxx", 2, 0)], [], []],
    [[("xxxx", 0, 2)], [], []], [[("xxxx", -1, 0)], [], []], [[("xxxx", True, 0)], [], []], [[("xxx", 0, 0)], [], []],
    [[], [], [("xxxx", None, None)] * 13], [[], [], [("xxxx", None)]], [[], [], [["xxxx", None, None]]],
]
NO_OUTER_DOORS = ANYTHING + [
    (0, 1), (1, 0), (1, 2), (2, 0), (0, 2), (1, 3), (3, 0), (-1, 0), (0, -1), (0, 0, 0), (0,), [0, 0], [1, 1], 0, 1,
    (False, 0), (0, False), (True, True), (True, 1), (1, True), ("0", "0"), (0.0, 0), (0, None), ((0, 0),),
    (Stubborn(), 0), (0, Stubborn()), (10 ** 400, 0), ([], []),
]
NO_ADDRESSES = ANYTHING + [16, 17, -1, -16, 31, True, False, "0", "5", "0101", "xxxx", 5.0, [5], (5,), [], b"5"]


class Refused(unittest.TestCase):
    def assert_refused(self, error, books, door, address):
        with self.subTest(books=repr(books)[:200], door=repr(door), address=repr(address)):
            with self.assertRaises(error) as caught:
                way(NET, books, door, address)
            self.assertIs(type(caught.exception), error)

    def test_no_books(self):
        for books in NO_BOOKS:
            self.assert_refused(NoBooks, books, (0, 0), 0)

    def test_no_outer_door(self):
        for door in NO_OUTER_DOORS:
            self.assert_refused(NoDoor, BOOKS, door, 0)

    def test_no_address(self):
        for address in NO_ADDRESSES:
            self.assert_refused(NoAddress, BOOKS, (0, 0), address)

    def test_the_first_refusal_that_is_due_goes(self):
        for books in NO_BOOKS:
            self.assert_refused(NoBooks, books, (0, 1), 0)
            self.assert_refused(NoBooks, books, (0, 0), 16)
            self.assert_refused(NoBooks, books, Stubborn(), Stubborn())
        for door in NO_OUTER_DOORS:
            self.assert_refused(NoDoor, BOOKS, door, 16)
            self.assert_refused(NoDoor, BOOKS, door, Stubborn())

    def test_books_are_looked_at_where_the_letter_does_not_come_too(self):
        self.assert_refused(NoBooks, [[("xxxx", None, 0)], [], [("xxxx", 9, None)]], (0, 0), 0)

    def test_what_is_refused_stays_as_it_was(self):
        books = copy.deepcopy(BOOKS)
        self.assert_refused(NoDoor, books, (0, 1), 0)
        self.assert_refused(NoAddress, books, (0, 0), 16)
        self.assertEqual(books, BOOKS)
        books[0].append(None)
        wrong = copy.deepcopy(books)
        self.assert_refused(NoBooks, books, (0, 0), 0)
        self.assertEqual(books, wrong)

    def test_all_addresses_and_all_outer_doors_are_taken(self):
        for door, address in itertools.product([(0, 0), (1, 1), (2, 1)], range(16)):
            self.assertEqual(way(NET, BOOKS, door, address), way_of(NET, BOOKS, door, address))


if __name__ == "__main__":
    unittest.main()
