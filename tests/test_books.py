import copy
import itertools
import random
import unittest

from model import ANYTHING, Stubborn, drawn_book, drawn_books, drawn_net, suits
from nohalfway.books import is_books, taken
from nohalfway.nets import Net

NET = Net([2, 3, 1], [((0, 1), (1, 0)), ((1, 2), (2, 0))])
RIGHT = [
    [("1xx0", None, 1), ("xxxx", 0, None)],
    [("0000", 2, 0), ("xxxx", None, None), ("1111", 0, 2)],
    [],
]


class RightBooks(unittest.TestCase):
    def assert_books(self, thing, net=NET):
        before = copy.deepcopy(thing)
        self.assertIs(is_books(thing, net), True)
        self.assertEqual(thing, before)

    def test_some_books(self):
        self.assert_books(RIGHT)

    def test_empty_books(self):
        self.assert_books([[], [], []])
        self.assert_books([[]], Net([1], []))
        self.assert_books([[] for house in range(6)], Net([4] * 6, []))

    def test_books_of_twelve_rows(self):
        for rows in range(13):
            self.assert_books([[("xxxx", None, 0)] * rows, [("01x0", 2, None)] * 12, [("1111", 0, 0)] * rows])

    def test_in_and_out_are_none_or_a_door_of_that_house(self):
        for house, count in enumerate([2, 3, 1]):
            for door in [None] + list(range(count)):
                for out in [None] + list(range(count)):
                    books = [[], [], []]
                    books[house] = [("x01x", door, out)]
                    self.assert_books(books)

    def test_every_pattern(self):
        for signs in itertools.product("01x", repeat=4):
            self.assert_books([[("".join(signs), None, None)], [], []])

    def test_the_same_row_twice_and_the_same_list_twice(self):
        book = [("xxxx", 0, 0), ("xxxx", 0, 0)]
        self.assert_books([book, book, book])

    def test_books_of_six_houses_with_four_doors(self):
        self.assert_books([[("xxxx", 3, 3)] * 12 for house in range(6)], Net([4] * 6, []))

    def test_drawn_books(self):
        source = random.Random(6)
        for count in range(100):
            net = drawn_net(source, Net)
            self.assert_books(drawn_books(source, net), net)


class NoBooksAtAll(unittest.TestCase):
    def assert_none(self, thing, net=NET):
        with self.subTest(repr(thing)[:300]):
            self.assertIs(is_books(thing, net), False)

    def assert_no_row(self, row):
        for house in range(3):
            books = copy.copy(RIGHT)
            for place in range(len(books[house]) + 1):
                books[house] = RIGHT[house][:place] + [row] + RIGHT[house][place:]
                self.assert_none(books)

    def test_what_is_no_list(self):
        for thing in ANYTHING + [tuple(RIGHT), dict(enumerate(RIGHT)), iter(RIGHT), ([], [], []), "[]"]:
            self.assert_none(thing)
        self.assert_none((), Net([1], []))
        self.assert_none(([],), Net([1], []))

    def test_a_book_more_or_less(self):
        self.assert_none([])
        self.assert_none(RIGHT[:2])
        self.assert_none(RIGHT + [[]])
        self.assert_none([[]] * 300)
        self.assert_none([], Net([1], []))
        self.assert_none([[], []], Net([1], []))
        self.assert_none([[]] * 5, Net([1] * 6, []))
        self.assert_none([[]] * 7, Net([1] * 6, []))

    def test_a_book_that_is_no_list(self):
        for place in range(3):
            for thing in ANYTHING + [tuple(RIGHT[0]), ("xxxx", None, None), {("xxxx", None, None): 1}]:
                books = copy.copy(RIGHT)
                books[place] = thing
                self.assert_none(books)

    def test_a_book_of_thirteen_rows(self):
        for place in range(3):
            for rows in [13, 14, 300]:
                books = copy.copy(RIGHT)
                books[place] = [("xxxx", None, None)] * rows
                self.assert_none(books)

    def test_a_row_that_is_no_tuple(self):
        for thing in ANYTHING + [["xxxx", None, None], [], "xx0", "xxxx", {"xxxx": 0, None: 1, 0: 2}]:
            self.assert_no_row(thing)

    def test_a_row_of_another_count_of_things(self):
        for row in [
            ("xxxx",), ("xxxx", None), ("xxxx", 0), (None, None), ("xxxx", 0, 0, 0), ("xxxx", None, None, None),
            ("xxxx", 0, 0, "xxxx"), (("xxxx", 0, 0),), ("xxxx", (0, 0)), ("xxxx",) * 300,
        ]:
            self.assert_no_row(row)

    def test_a_pattern_that_is_none(self):
        for thing in ANYTHING + [
            "xxx", "xxxxx", "01x2", "XXXX", "01x ", 1010, 0, ["x", "x", "x", "x"], ("x", "x", "x", "x"), ("xxxx",),
        ]:
            self.assert_no_row((thing, None, None))

    def test_a_door_that_the_house_has_not(self):
        for house, count in enumerate([2, 3, 1]):
            for number in [count, count + 1, 4, 10 ** 400, -1, -2, -count, -10 ** 400]:
                for row in [("xxxx", number, 0), ("xxxx", 0, number), ("xxxx", number, None), ("xxxx", None, number)]:
                    books = [[], [], []]
                    books[house] = [row]
                    self.assert_none(books)

    def test_what_is_no_number_in_a_doors_place(self):
        for thing in [thing for thing in ANYTHING if thing is not None] + [
            True, False, "0", "1", "", "any", "drop", 0.0, 1.0, (0, 0), [0], (0,), [], b"0", {0: 0},
        ]:
            self.assert_no_row(("xxxx", thing, 0))
            self.assert_no_row(("xxxx", 0, thing))
            self.assert_no_row(("xxxx", thing, thing))

    def test_books_within_themselves(self):
        books = []
        books += [books, books, books]
        self.assert_none(books)


class Taken(unittest.TestCase):
    def test_the_first_row_that_suits(self):
        book = [("1xx0", 0, 1), ("1xxx", 1, None), ("1xx0", None, 0), ("xxxx", 0, 0), ("xxxx", None, 1)]
        self.assertEqual(taken(book, 0, 8), 0)
        self.assertEqual(taken(book, 1, 8), 1)
        self.assertEqual(taken(book, 2, 8), 2)
        self.assertEqual(taken(book, 0, 9), 3)
        self.assertEqual(taken(book, 1, 9), 1)
        self.assertEqual(taken(book, 2, 9), 4)
        self.assertEqual(taken(book, 0, 0), 3)
        self.assertEqual(taken(book, 1, 0), 4)

    def test_none_where_no_row_suits(self):
        self.assertIsNone(taken([], 0, 0))
        self.assertIsNone(taken([("1xxx", None, 0)], 0, 7))
        self.assertIsNone(taken([("xxxx", 1, 0)], 0, 7))
        self.assertIsNone(taken([("0xxx", 1, 0), ("1xxx", 0, 0)], 0, 7))

    def test_a_row_with_out_none_is_taken_too(self):
        self.assertEqual(taken([("xxxx", None, None), ("xxxx", None, 0)], 0, 3), 0)
        self.assertEqual(taken([("0000", 0, 1), ("xxxx", 0, None)], 0, 3), 1)

    def test_the_door_0_is_not_any_door(self):
        self.assertIsNone(taken([("xxxx", 0, 0)], 1, 3))
        self.assertEqual(taken([("xxxx", 0, 0)], 0, 3), 0)
        self.assertEqual(taken([("xxxx", 0, 0), ("xxxx", None, 0)], 1, 3), 1)

    def test_the_last_of_twelve_rows_and_of_more(self):
        for rows in [11, 12, 20, 299]:
            book = [("1xxx", None, 0)] * rows + [("xxxx", None, 0)]
            self.assertEqual(taken(book, 0, 7), rows)
            self.assertEqual(taken(book, 0, 8), 0)

    def test_it_tells_a_whole_number(self):
        for told in [taken([("xxxx", None, 0)], 0, 0), taken([("0000", None, 0), ("xxxx", None, 0)], 0, 1)]:
            self.assertIs(type(told), int)

    def test_drawn_books_for_every_door_and_address(self):
        source = random.Random(7)
        for count in range(150):
            book = drawn_book(source, 4)
            before = copy.deepcopy(book)
            for door, address in itertools.product(range(4), range(16)):
                right = [
                    number for number, row in enumerate(book)
                    if suits(row[0], address) and (row[1] is None or row[1] == door)
                ]
                self.assertEqual(taken(book, door, address), right[0] if right else None)
            self.assertEqual(book, before)

    def test_a_book_that_is_changed_between(self):
        book = [("xxxx", None, 0)]
        self.assertEqual(taken(book, 0, 0), 0)
        book.insert(0, ("1xxx", None, 0))
        self.assertEqual(taken(book, 0, 0), 1)
        book.clear()
        self.assertIsNone(taken(book, 0, 0))


class Hostile(unittest.TestCase):
    def test_things_that_can_not_be_compared_are_no_books(self):
        for thing in [
            Stubborn(), [Stubborn()], [[Stubborn()]], [[(Stubborn(), None, None)]], [[("xxxx", Stubborn(), None)]],
            [[("xxxx", None, Stubborn())]],
        ]:
            self.assertIs(is_books(thing, Net([1], [])), False)


if __name__ == "__main__":
    unittest.main()
