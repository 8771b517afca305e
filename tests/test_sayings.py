import copy
import itertools
import random
import unittest

from model import (
    ANYTHING, Stubborn, broken_of, drawn_books, drawn_net, drawn_pattern, drawn_saying, mixed_of,
)
from nohalfway.errors import NoBooks, NoSaying
from nohalfway.nets import Net
from nohalfway.sayings import broken, is_saying, mixed

# Three houses in a row; outer doors 0.0, 1.1 and 2.1.
NET = Net([2, 3, 2], [((0, 1), (1, 0)), ((1, 2), (2, 0))])
RIGHT = [
    ("comes", "1xx0", (0, 0), (2, 1)),
    ("leaves", "1xx0", (0, 0)),
    ("noring", "1xx0", (0, 0)),
    ("by", "1xx0", (0, 0), 2),
    ("never", "1xx0", (0, 0), 2),
]
NO_PATTERNS = ["", "1xx", "1xx00", "1xx2", "1XX0", " xx0", 8, 1000, ["1", "x", "x", "0"], ("1xx0",)]
NO_OUTER_DOORS = [
    (0, 1), (1, 0), (2, 0), (0, 2), (3, 0), (-1, 0), (0, -1), (True, True), (1, True), (False, 0), (0, False),
    [0, 0], (0, 0, 0), (0,), 0, "0.0", ("0", "0"), ((0, 0),), ((0, 0), (2, 1)), (0, Stubborn()), ([], []),
]
NO_HOUSES = [3, 4, 6, -1, -3, 10 ** 400, True, False, "0", "2", 0.0, 2.0, (2,), [2], (2, 1), (0, 0)]


class IsSaying(unittest.TestCase):
    def assert_none(self, thing, net=NET):
        with self.subTest(repr(thing)):
            self.assertIs(is_saying(thing, net), False)

    def test_each_word(self):
        for saying in RIGHT:
            self.assertIs(is_saying(saying, NET), True)

    def test_each_outer_door_and_each_house(self):
        doors = [(0, 0), (1, 1), (2, 1)]
        for door in doors:
            self.assertIs(is_saying(("leaves", "xxxx", door), NET), True)
            self.assertIs(is_saying(("noring", "xxxx", door), NET), True)
            for other in doors:
                self.assertIs(is_saying(("comes", "0000", door, other), NET), True)
            for house in range(3):
                self.assertIs(is_saying(("by", "1111", door, house), NET), True)
                self.assertIs(is_saying(("never", "01x0", door, house), NET), True)

    def test_the_net_is_looked_at(self):
        other = Net([2], [])
        self.assertIs(is_saying(("comes", "xxxx", (0, 0), (0, 1)), other), True)
        self.assert_none(("comes", "xxxx", (0, 0), (0, 1)))
        self.assert_none(("comes", "xxxx", (0, 0), (2, 1)), other)
        self.assert_none(("by", "xxxx", (0, 0), 1), other)
        self.assertIs(is_saying(("never", "xxxx", (0, 0), 0), other), True)
        self.assert_none(("leaves", "xxxx", (0, 0)), Net([1, 1], [((0, 0), (1, 0))]))

    def test_another_word(self):
        for saying in RIGHT:
            for word in ANYTHING + [
                "come", "Comes", "COMES", "comes ", "leave", "leaves ", "ring", "no ring", "noRing", "bye", "b", "ever",
                "out", "drop", "at", "must", 0, 1, ("comes",), ["comes"], ("by",), b"by",
            ]:
                if not isinstance(word, str) or word != saying[0]:
                    self.assert_none((word, *saying[1:]))

    def test_words_exchanged_for_one_another(self):
        for saying in RIGHT:
            for other in RIGHT:
                same = [type(thing) for thing in saying] == [type(thing) for thing in other]
                self.assertIs(is_saying((other[0], *saying[1:]), NET), same)

    def test_another_pattern(self):
        for saying in RIGHT:
            for pattern in ANYTHING + NO_PATTERNS:
                self.assert_none((saying[0], pattern, *saying[2:]))

    def test_another_door(self):
        for saying in RIGHT:
            for door in ANYTHING + NO_OUTER_DOORS:
                self.assert_none((*saying[:2], door, *saying[3:]))

    def test_another_door_where_it_comes(self):
        for door in ANYTHING + NO_OUTER_DOORS + [0, 1, 2]:
            self.assert_none(("comes", "1xx0", (0, 0), door))

    def test_another_house(self):
        for house in ANYTHING + NO_HOUSES:
            self.assert_none(("by", "1xx0", (0, 0), house))
            self.assert_none(("never", "1xx0", (0, 0), house))

    def test_a_thing_left_out(self):
        for saying in RIGHT:
            for place in range(len(saying)):
                self.assert_none(saying[:place] + saying[place + 1:])
                self.assert_none(saying[:place])

    def test_a_thing_put_behind(self):
        for saying in RIGHT:
            for thing in ANYTHING + [0, 1, (0, 0), (2, 1), "xxxx", "leaves"]:
                self.assert_none((*saying, thing))
            self.assert_none(saying + saying)
            self.assert_none(("comes", *saying))

    def test_things_in_another_order(self):
        for saying in RIGHT:
            right = [saying]
            if saying[0] == "comes":
                right.append(("comes", "1xx0", (2, 1), (0, 0)))
            for things in itertools.permutations(saying):
                self.assertIs(is_saying(things, NET), things in right)

    def test_what_is_no_tuple(self):
        for saying in RIGHT:
            self.assert_none(list(saying))
            self.assert_none((saying,))
            self.assert_none([saying])
            self.assert_none(dict.fromkeys(saying))
            self.assert_none(" ".join(map(str, saying)))
        for thing in ANYTHING + ["leaves xxxx 0.0", "xxx", "abcd", [], ["leaves", "xxxx", (0, 0)], ((0, 0),) * 3]:
            self.assert_none(thing)

    def test_drawn_sayings(self):
        source = random.Random(8)
        for count in range(300):
            net = drawn_net(source, Net)
            saying = drawn_saying(source, net)
            self.assertIs(is_saying(saying, net), True)


# 0: dropped at once; 1: out by 1.1; 2: out by 2.1; 3: round between 0 and 1; 4 and above: dropped in house 2.
BOOKS = [
    [("0000", 0, None), ("xxxx", None, 1)],
    [("0001", 0, 1), ("0011", 0, 0), ("xxxx", 0, 2)],
    [("0010", 0, 1)],
]


class Broken(unittest.TestCase):
    def assert_broken(self, saying, address, books=BOOKS):
        before = copy.deepcopy(books)
        told = broken(NET, books, saying)
        self.assertEqual(told, address)
        self.assertIn(type(told), [int, type(None)])
        self.assertEqual(books, before)

    def test_comes(self):
        self.assert_broken(("comes", "0001", (0, 0), (1, 1)), None)
        self.assert_broken(("comes", "0001", (0, 0), (2, 1)), 1)
        self.assert_broken(("comes", "0010", (0, 0), (2, 1)), None)
        self.assert_broken(("comes", "0010", (0, 0), (1, 1)), 2)
        self.assert_broken(("comes", "00xx", (0, 0), (1, 1)), 0)
        self.assert_broken(("comes", "001x", (0, 0), (2, 1)), 3)
        self.assert_broken(("comes", "x010", (0, 0), (2, 1)), 10)

    def test_leaves(self):
        self.assert_broken(("leaves", "0001", (0, 0)), None)
        self.assert_broken(("leaves", "0010", (0, 0)), None)
        self.assert_broken(("leaves", "001x", (0, 0)), 3)
        self.assert_broken(("leaves", "0x01", (0, 0)), 5)
        self.assert_broken(("leaves", "xxxx", (0, 0)), 0)
        self.assert_broken(("leaves", "1111", (0, 0)), 15)

    def test_noring(self):
        self.assert_broken(("noring", "0000", (0, 0)), None)
        self.assert_broken(("noring", "000x", (0, 0)), None)
        self.assert_broken(("noring", "0010", (0, 0)), None)
        self.assert_broken(("noring", "1xxx", (0, 0)), None)
        self.assert_broken(("noring", "xxxx", (0, 0)), 3)
        self.assert_broken(("noring", "xxxx", (1, 1)), None)

    def test_by(self):
        self.assert_broken(("by", "xxxx", (0, 0), 0), None)
        self.assert_broken(("by", "xxxx", (0, 0), 1), 0)
        self.assert_broken(("by", "1xxx", (0, 0), 1), None)
        self.assert_broken(("by", "0011", (0, 0), 1), None)
        self.assert_broken(("by", "0011", (0, 0), 2), 3)
        self.assert_broken(("by", "xx1x", (0, 0), 2), 3)
        self.assert_broken(("by", "01xx", (0, 0), 2), None)

    def test_never(self):
        self.assert_broken(("never", "xxxx", (0, 0), 0), 0)
        self.assert_broken(("never", "1111", (0, 0), 0), 15)
        self.assert_broken(("never", "xxxx", (0, 0), 1), 1)
        self.assert_broken(("never", "0000", (0, 0), 1), None)
        self.assert_broken(("never", "0011", (0, 0), 1), 3)
        self.assert_broken(("never", "00xx", (0, 0), 2), 2)
        self.assert_broken(("never", "00x1", (0, 0), 2), None)
        self.assert_broken(("never", "xxxx", (2, 1), 0), None)

    def test_by_and_never_count_the_first_house_and_the_one_where_it_is_dropped(self):
        self.assert_broken(("by", "xxxx", (2, 1), 2), None)
        self.assert_broken(("never", "xxxx", (2, 1), 2), 0)
        self.assert_broken(("by", "0100", (0, 0), 2), None)
        self.assert_broken(("never", "0100", (0, 0), 2), 4)

    def test_the_other_door_may_be_the_same(self):
        self.assert_broken(("comes", "xxxx", (0, 0), (0, 0)), None, [[("xxxx", None, 0)], [], []])
        self.assert_broken(("comes", "xxxx", (0, 0), (0, 0)), 0)

    def test_the_end_is_looked_at_as_a_whole(self):
        net = Net([3, 3], [((0, 2), (1, 2))])
        books = [[("0xxx", None, 2), ("xxxx", None, 0)], [("00xx", None, 0), ("xxxx", None, 1)]]
        self.assertEqual(broken(net, books, ("comes", "xxxx", (0, 1), (0, 0))), 0)
        self.assertEqual(broken(net, books, ("comes", "xxxx", (0, 1), (1, 0))), 4)
        self.assertEqual(broken(net, books, ("comes", "0xxx", (0, 1), (1, 1))), 0)
        self.assertIsNone(broken(net, books, ("comes", "01xx", (0, 1), (1, 1))))
        self.assertIsNone(broken(net, books, ("comes", "1xxx", (0, 1), (0, 0))))

    def test_the_address_0_is_told_as_a_number(self):
        told = broken(NET, [[], [], []], ("leaves", "xxxx", (0, 0)))
        self.assertEqual(told, 0)
        self.assertIs(type(told), int)

    def test_books_that_are_changed_between(self):
        books = copy.deepcopy(BOOKS)
        saying = ("leaves", "001x", (0, 0))
        self.assertEqual(broken(NET, books, saying), 3)
        books[1][1] = ("0011", 0, 1)
        self.assertIsNone(broken(NET, books, saying))
        books[2].clear()
        self.assertEqual(broken(NET, books, saying), 2)

    def test_drawn_books_and_sayings(self):
        source = random.Random(9)
        told_of = {word: [0, 0] for word in ["comes", "leaves", "noring", "by", "never"]}
        for count in range(600):
            net = drawn_net(source, Net)
            books = drawn_books(source, net, source.choice([3, 12]))
            before = copy.deepcopy(books)
            for asked in range(5):
                saying = drawn_saying(source, net)
                saying = (saying[0], drawn_pattern(source, source.choice([0, 0.3, 1])), *saying[2:])
                right = broken_of(net, books, saying)
                self.assertEqual(broken(net, books, saying), right)
                told_of[saying[0]][right is None] += 1
            self.assertEqual(books, before)
        self.assertTrue(all(min(counts) > 10 for counts in told_of.values()), told_of)


NO_BOOKS = ANYTHING + [
    [], [[], []], [[], [], [], []], ([], [], []), [[], [], None], [[("xxxx", 2, 0)], [], []],
    [[("xxxx", 0, True)], [], []], [[], [], [("xxxx", None, None)] * 13], [[], [], [("xxxx", None)]],
]
NO_SAYINGS = ANYTHING + [
    ("leaves", "xxxx", (0, 1)), ("leaves", "xxx", (0, 0)), ("leaves", "xxxx"), ("leaves", "xxxx", (0, 0), 0),
    ("goes", "xxxx", (0, 0)), ["leaves", "xxxx", (0, 0)], ("comes", "xxxx", (0, 0)), ("comes", "xxxx", (0, 0), (1, 0)),
    ("comes", "xxxx", (0, 0), 1), ("by", "xxxx", (0, 0), 3), ("by", "xxxx", (0, 0), True), ("by", "xxxx", (0, 0)),
    ("never", "xxxx", (0, 0), -1), ("never", "xxxx", (0, 0), (1, 1)), "leaves xxxx 0.0", (("leaves", "xxxx", (0, 0)),),
]


class Refused(unittest.TestCase):
    def assert_refused(self, error, books, saying):
        with self.subTest(books=repr(books)[:200], saying=repr(saying)):
            with self.assertRaises(error) as caught:
                broken(NET, books, saying)
            self.assertIs(type(caught.exception), error)

    def test_no_books(self):
        for books in NO_BOOKS:
            self.assert_refused(NoBooks, books, ("leaves", "xxxx", (0, 0)))

    def test_no_saying(self):
        for saying in NO_SAYINGS:
            self.assert_refused(NoSaying, BOOKS, saying)

    def test_no_books_goes_first(self):
        for books in NO_BOOKS:
            self.assert_refused(NoBooks, books, None)
            self.assert_refused(NoBooks, books, Stubborn())
        for saying in NO_SAYINGS:
            self.assert_refused(NoBooks, [[], []], saying)

    def test_what_is_refused_stays_as_it_was(self):
        books = copy.deepcopy(BOOKS)
        saying = ["leaves", "xxxx", (0, 0)]
        self.assert_refused(NoSaying, books, saying)
        self.assertEqual((books, saying), (BOOKS, ["leaves", "xxxx", (0, 0)]))


class Mixed(unittest.TestCase):
    OLD = [[("0000", None, 0)], [("0001", None, 0)], [("0010", None, 0)], []]
    NEW = [[("1000", None, 0)], [], [("1010", None, 0)], [("1011", None, 0)]]

    def test_the_new_book_of_each_house_in_the_list(self):
        old, new = self.OLD, self.NEW
        self.assertEqual(mixed(old, new, []), old)
        self.assertEqual(mixed(old, new, [0, 1, 2, 3]), new)
        self.assertEqual(mixed(old, new, [0]), [new[0], old[1], old[2], old[3]])
        self.assertEqual(mixed(old, new, [3]), [old[0], old[1], old[2], new[3]])
        self.assertEqual(mixed(old, new, [1, 2]), [old[0], new[1], new[2], old[3]])
        for size in range(5):
            for houses in itertools.permutations(range(4), size):
                self.assertEqual(mixed(old, new, list(houses)), mixed_of(old, new, houses))

    def test_the_order_of_the_list_and_houses_told_twice_do_not_matter(self):
        for houses in [[2, 1], [1, 2, 1], [2, 2, 1, 1]]:
            self.assertEqual(mixed(self.OLD, self.NEW, houses), [self.OLD[0], self.NEW[1], self.NEW[2], self.OLD[3]])

    def test_houses_beyond_the_books_change_nothing(self):
        self.assertEqual(mixed(self.OLD, self.NEW, [4, 6, -1]), self.OLD)

    def test_it_is_a_list_of_lists_of_tuples(self):
        told = mixed(self.OLD, self.NEW, [1])
        self.assertIs(type(told), list)
        self.assertTrue(all(type(book) is list for book in told))
        self.assertTrue(all(type(row) is tuple for book in told for row in book))

    def test_no_list_of_it_was_handed_in(self):
        old, new, houses = copy.deepcopy(self.OLD), copy.deepcopy(self.NEW), [0, 2]
        told = mixed(old, new, houses)
        for one in [told] + told:
            for other in [old, new, houses] + old + new:
                self.assertIsNot(one, other)
        self.assertEqual(len({id(book) for book in told}), 4)
        for book in told:
            book.append(("xxxx", None, None))
        told.clear()
        self.assertEqual((old, new, houses), (self.OLD, self.NEW, [0, 2]))
        self.assertEqual(mixed(old, new, houses), [new[0], old[1], new[2], old[3]])

    def test_one_list_handed_in_twice_is_told_as_two(self):
        book = [("xxxx", None, 0)]
        told = mixed([book, book], [book, book], [0])
        self.assertIsNot(told[0], told[1])
        told[0].clear()
        self.assertEqual((told[1], book), ([("xxxx", None, 0)], [("xxxx", None, 0)]))

    def test_what_is_done_to_what_was_handed_in_changes_nothing(self):
        old, new, houses = copy.deepcopy(self.OLD), copy.deepcopy(self.NEW), [0, 2]
        told = mixed(old, new, houses)
        kept = copy.deepcopy(told)
        for book in old + new:
            book.append(("xxxx", None, None))
        old.clear()
        houses.clear()
        self.assertEqual(told, kept)


if __name__ == "__main__":
    unittest.main()
