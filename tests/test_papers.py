import copy
import itertools
import random
import unittest

from model import ANYTHING, Stubborn, bad_lines, changers_of, drawn_case, drawn_paper, orders_of, paper_fault
from nohalfway.nets import Net
from nohalfway.orders import is_safe, order
from nohalfway.papers import is_paper

SAFE = ("safe",)
# Two houses with two wires between them: old books send by the one, new books by the other, and half done drops.
NET = Net([3, 3, 1], [((0, 1), (1, 1)), ((0, 2), (1, 2))])
OLD = [[("011x", 0, 1), ("xxxx", 0, 0)], [("xxxx", 1, 0)], []]
NEW = [[("011x", 0, 2), ("xxxx", 0, 0)], [("xxxx", 2, 0)], []]
SAYINGS = [("leaves", "xxxx", (0, 0)), ("never", "1xxx", (0, 0), 1), ("comes", "0111", (0, 0), (1, 0))]
CASE = (NET, OLD, NEW, SAYINGS)
RIGHT = [([], SAFE), ([0], ("bad", 0, 6)), ([1], ("bad", 0, 6))]
# Four changers, all of them safe but the set of all: each subset has to be there.
FOUR = Net([3, 2, 2, 2], [((0, 1), (1, 0)), ((1, 1), (2, 0)), ((2, 1), (3, 0)), ((3, 1), (0, 2))])
ROUND = (FOUR, [[], [], [], []], [[("xxxx", None, 1)]] * 4, [("noring", "1x0x", (0, 0))])
SUBSETS = [list(houses) for size in range(5) for houses in itertools.combinations(range(4), size)]


class Told(unittest.TestCase):
    def assert_right(self, case, paper):
        self.look_at(case, paper, True)

    def assert_wrong(self, case, paper):
        self.look_at(case, paper, False)

    def look_at(self, case, paper, right):
        with self.subTest(repr(paper)[:300]):
            self.assertIs(is_paper(*case, paper), right)
            self.assertIs(paper_fault(*case, paper) is None, right)


class RightPapers(Told):
    def test_the_paper_that_order_tells(self):
        for case in (CASE, ROUND):
            told = order(*case)
            self.assertEqual(told[0], "none")
            self.assert_right(case, told[1])

    def test_lines_in_another_order(self):
        for paper in itertools.permutations(RIGHT):
            self.assert_right(CASE, list(paper))
        self.assert_right(ROUND, order(*ROUND)[1][::-1])

    def test_another_saying_or_address_that_shows_it(self):
        for told in [("bad", 0, 6), ("bad", 0, 7), ("bad", 2, 7)]:
            self.assert_right(CASE, [([], SAFE), ([0], told), ([1], ("bad", 0, 7))])
        for address in [8, 9, 12, 13]:
            paper = [(houses, SAFE) for houses in SUBSETS[:-1]] + [([0, 1, 2, 3], ("bad", 0, address))]
            self.assert_right(ROUND, paper)

    def test_the_least_address_need_not_be_told(self):
        case = (NET, [[], [], []], NEW, [("leaves", "x1xx", (0, 0))])
        for address in range(16):
            self.look_at(case, [([], ("bad", 0, address))], address in (4, 5, 6, 7, 12, 13, 14, 15))

    def test_safe_lines_of_sets_that_are_not_safe(self):
        self.assertFalse(is_safe(*CASE, [0]))
        # The new books are bad here, so that the line of all changers can be a bad one.
        new = [NEW[0], [("xxxx", 2, None)], []]
        case = (NET, OLD, new, SAYINGS)
        for one, other in itertools.product([SAFE, ("bad", 0, 6), ("bad", 2, 7)], repeat=2):
            paper = [([], SAFE), ([0], one), ([1], other), ([0, 1], ("bad", 2, 7))]
            self.assert_right(case, paper)
        self.assert_right((NET, [[], [], []], new, SAYINGS), paper)

    def test_where_no_set_is_safe_and_all_are_told_safe_but_the_last(self):
        case = (FOUR, [[], [], [], []], [[("xxxx", 1, 0)], [("xxxx", 1, 0)], [("xxxx", 1, 0)], [("xxxx", 1, 0)]],
                [("leaves", "0xxx", (0, 0))])
        self.assertFalse(any(is_safe(*case, houses) for houses in SUBSETS))
        paper = [(houses, SAFE) for houses in SUBSETS[:-1]] + [([0, 1, 2, 3], ("bad", 0, 7))]
        self.assert_right(case, paper)
        self.assert_right(case, [([], ("bad", 0, 3))])

    def test_lines_that_were_not_needed(self):
        new = [NEW[0], [("xxxx", 2, None)], []]
        paper = [([], ("bad", 0, 6)), ([0, 1], ("bad", 0, 7)), ([0], SAFE)]
        self.assert_right((NET, [[], [], []], new, SAYINGS), paper)
        self.assert_right((NET, [[], [], []], new, SAYINGS), paper[:1] + paper[1:2])
        self.assert_wrong((NET, [[], [], []], new, SAYINGS), paper[:1] + paper[2:])

    def test_where_no_house_changes(self):
        case = (NET, OLD, copy.deepcopy(OLD), [("never", "x001", (0, 0), 0)])
        self.assert_right(case, [([], ("bad", 0, 1))])
        self.assert_right(case, [([], ("bad", 0, 9))])
        self.assert_wrong(case, [([], ("bad", 0, 8))])
        self.assert_wrong(case, [([], SAFE)])
        self.assert_wrong(case, [([], ("bad", 0, 1)), ([0], ("bad", 0, 1))])
        self.assert_wrong((NET, OLD, OLD, SAYINGS), [([], SAFE)])
        self.assert_wrong((NET, OLD, OLD, []), [([], SAFE)])

    def test_each_word_of_a_saying_may_show_it(self):
        # Address 5 comes in by 0.0 and is dropped at house 1, or goes round between houses 0 and 1.
        dropping = [[("xxxx", 0, 1)], [], []]
        ringing = [[("xxxx", None, 1)], [("xxxx", None, 1)], []]
        for books, saying, right in [
            (dropping, ("comes", "xxxx", (0, 0), (1, 0)), True), (dropping, ("leaves", "xxxx", (0, 0)), True),
            (dropping, ("noring", "xxxx", (0, 0)), False), (ringing, ("noring", "xxxx", (0, 0)), True),
            (dropping, ("by", "xxxx", (0, 0), 2), True), (dropping, ("by", "xxxx", (0, 0), 1), False),
            (ringing, ("never", "xxxx", (0, 0), 1), True), (ringing, ("never", "xxxx", (0, 0), 2), False),
        ]:
            self.look_at((NET, books, NEW, [saying]), [([], ("bad", 0, 5))], right)

    def test_more_than_eight_sayings(self):
        case = (NET, OLD, NEW, SAYINGS + [SAYINGS[1]] * 6 + [SAYINGS[0]])
        self.assert_right(case, [([], SAFE), ([0], ("bad", 9, 6)), ([1], ("bad", 0, 6))])


class WrongPapers(Told):
    def test_a_line_left_out(self):
        self.assert_wrong(CASE, [])
        for place in range(len(RIGHT)):
            self.assert_wrong(CASE, RIGHT[:place] + RIGHT[place + 1:])
        paper = order(*ROUND)[1]
        for place in range(len(paper)):
            self.assert_wrong(ROUND, paper[:place] + paper[place + 1:])

    def test_a_line_twice(self):
        for line in RIGHT:
            self.assert_wrong(CASE, RIGHT + [line])
            self.assert_wrong(CASE, [line] + RIGHT)
        self.assert_wrong(CASE, RIGHT + [([1], ("bad", 0, 7))])
        self.assert_wrong(CASE, RIGHT + RIGHT)
        case = (NET, [[], [], []], NEW, SAYINGS)
        self.assert_right(case, [([], ("bad", 0, 0))])
        self.assert_wrong(case, [([], ("bad", 0, 0)), ([], ("bad", 0, 1))])

    def test_what_is_told_exchanged(self):
        first, second, third = RIGHT
        self.assert_wrong(CASE, [([], second[1]), ([0], SAFE), third])
        self.assert_wrong(CASE, [([], second[1]), second, third])
        self.assert_wrong(CASE, [first, ([0], SAFE), third])
        self.assert_wrong(CASE, [first, second, ([1], SAFE)])
        self.assert_wrong(CASE, [first, ([0], SAFE), ([1], SAFE)])

    def test_another_sayings_number(self):
        for number in [1, 2, 3, 4, -1, -2, -3, 10 ** 400, -10 ** 400]:
            self.assert_wrong(CASE, [([], SAFE), ([0], ("bad", number, 6)), ([1], ("bad", 0, 6))])
        # Read from the list's end, this number would be that of a saying that shows it.
        self.assert_wrong(CASE, [([], SAFE), ([0], ("bad", -3, 6)), ([1], ("bad", 0, 6))])
        self.assert_wrong(CASE, [([], SAFE), ([0], ("bad", -1, 7)), ([1], ("bad", 0, 6))])
        self.assert_wrong((NET, OLD, NEW, []), [([], ("bad", 0, 6))])
        self.assert_wrong((NET, OLD, NEW, []), [([], ("bad", -1, 6))])

    def test_another_address(self):
        for address in [-1, 0, 1, 2, 3, 4, 5, 8, 14, 15, 16, 22, 23, -9, -10, 10 ** 400]:
            self.assert_wrong(CASE, [([], SAFE), ([0], ("bad", 0, address)), ([1], ("bad", 0, 6))])
        # Of address 6 saying 2 would not be so either, but it is not of that address.
        self.assert_wrong(CASE, [([], SAFE), ([0], ("bad", 2, 6)), ([1], ("bad", 0, 6))])

    def test_another_word(self):
        for told in [("safe", 0, 6), ("good", 0, 6), ("Bad", 0, 6), ("", 0, 6), ("bad",), ("Safe",), ("",), (), "safe",
                     "bad", ["safe"], ["bad", 0, 6], ("bad", 0), ("bad", 6), ("bad", 0, 6, 0), ("bad", (0, 6)),
                     ("safe", "safe"), ("safe", 0), (SAFE,), (None,), (0,), None, SAFE[0], ("bad", 6, 0)]:
            self.assert_wrong(CASE, [([], SAFE), ([0], told), ([1], ("bad", 0, 6))])
            self.assert_wrong(CASE, [([], told), ([0], ("bad", 0, 6)), ([1], ("bad", 0, 6))])

    def test_another_set(self):
        first, second, third = RIGHT
        for houses in [[2], [3], [-1], [-2], [0, 0], [1, 0], [0, 2], [0, 1, 2], [0, 1, 1], [10 ** 400], [0.0], ["0"],
                       [None], [[0]], [(0, 0)], [False], (0,), "0", {0: 0}, {0}, 0, None, True, range(1)]:
            for told in [("bad", 0, 6), ("bad", 2, 7), SAFE]:
                self.assert_wrong(CASE, [first, second, third, (houses, told)])
                self.assert_wrong(CASE, [first, (houses, told), third])

    def test_truths_are_no_houses(self):
        first, second, third = RIGHT
        self.assertEqual(([True], third[1]), third)
        self.assert_wrong(CASE, [first, second, ([True], third[1])])
        self.assert_wrong(CASE, [first, ([False], second[1]), third])

    def test_truths_are_no_numbers_and_no_addresses(self):
        first, second, third = RIGHT
        self.assert_wrong(CASE, [first, ([0], ("bad", False, 6)), third])
        case = (NET, [[], [], []], NEW, [SAYINGS[0]] * 2)
        self.assert_right(case, [([], ("bad", 1, 1))])
        self.assert_wrong(case, [([], ("bad", True, 1))])
        self.assert_wrong(case, [([], ("bad", 1, True))])
        self.assert_wrong(case, [([], ("bad", 1, False))])

    def test_a_safe_line_of_all_changers(self):
        self.assert_wrong(CASE, RIGHT + [([0, 1], SAFE)])
        self.assert_wrong(CASE, [([], SAFE), ([0], SAFE), ([1], SAFE), ([0, 1], SAFE)])
        self.assert_wrong(ROUND, [(houses, SAFE) for houses in SUBSETS])
        self.assert_wrong(ROUND, [(houses, SAFE) for houses in SUBSETS[:-1]])

    def test_a_set_that_is_safe_told_bad(self):
        for number, address in itertools.product(range(3), range(16)):
            self.assert_wrong(CASE, [([], ("bad", number, address))])
            self.assert_wrong(CASE, RIGHT + [([0, 1], ("bad", number, address))])

    def test_the_mixed_books_are_those_of_the_lines_own_set(self):
        # What shows it for one set does not for another one.
        new = [[("011x", 0, 1), ("xxxx", 0, None)], [("xxxx", 2, 0)], []]
        case = (NET, OLD, new, SAYINGS[:1])
        self.assert_right(case, [([], SAFE), ([0], ("bad", 0, 5)), ([1], ("bad", 0, 6))])
        self.assert_wrong(case, [([], SAFE), ([0], ("bad", 0, 6)), ([1], ("bad", 0, 6))])
        self.assert_wrong(case, [([], SAFE), ([0], ("bad", 0, 5)), ([1], ("bad", 0, 5))])
        self.assert_wrong(case, [([], SAFE), ([1], ("bad", 0, 5)), ([0], ("bad", 0, 6))])


class OfAnything(unittest.TestCase):
    def assert_wrong(self, paper):
        with self.subTest(kind=type(paper)):
            self.assertIs(is_paper(*CASE, paper), False)

    def test_no_paper(self):
        for thing in ANYTHING + [tuple(RIGHT), dict(enumerate(RIGHT)), iter(RIGHT), RIGHT[0], "[([], ('safe',))]"]:
            self.assert_wrong(thing)

    def test_no_line(self):
        first, second, third = RIGHT
        for thing in ANYTHING + [[], [[0], second[1]], ([0],), ([0], second[1], None), ([], [0], second[1]), [second],
                                 (second[1], [0]), ([0], second), {0: second}, [0], ([0], "bad", 0, 6)]:
            self.assert_wrong([first, thing, third])
            self.assert_wrong([thing])
            self.assert_wrong(RIGHT + [thing])

    def test_no_set(self):
        first, second, third = RIGHT
        for thing in ANYTHING:
            for told in [("bad", 0, 6), SAFE, thing]:
                self.assert_wrong([first, (thing, told), third])
                self.assert_wrong([first, second, third, (thing, told)])
                self.assert_wrong([first, second, third, ([thing], told)])
                self.assert_wrong([first, second, third, ([0, thing], told)])

    def test_nothing_told(self):
        first, second, third = RIGHT
        for thing in ANYTHING + [[]]:
            for told in [thing, (thing,), (thing, 0, 6), ("bad", thing, 6), ("bad", 0, thing), ("safe", thing),
                         ("bad", thing), ("bad", thing, thing), (thing, thing, thing), ("bad", 0, 6, thing)]:
                self.assert_wrong([first, ([0], told), third])
                self.assert_wrong([first, second, third, ([0, 1], told)])
        # What shows it is address 6, and a 6 of another kind is no address.
        for thing in [6.0, "6", (6,), [6]]:
            self.assert_wrong([first, ([0], ("bad", 0, thing)), third])

    def test_a_stubborn_thing_beside_right_lines(self):
        for place in range(4):
            paper = list(RIGHT)
            paper.insert(place, Stubborn())
            self.assert_wrong(paper)


class AskedAgain(unittest.TestCase):
    def test_nothing_is_changed(self):
        case, paper = copy.deepcopy(CASE[1:]), copy.deepcopy(RIGHT)
        self.assertIs(is_paper(NET, *case, paper), True)
        self.assertEqual((case, paper), (CASE[1:], RIGHT))
        paper.append(([1, 0], SAFE))
        self.assertIs(is_paper(NET, *case, paper), False)
        self.assertEqual((case, paper), (CASE[1:], RIGHT + [([1, 0], SAFE)]))

    def test_a_paper_that_is_changed_between(self):
        paper = copy.deepcopy(RIGHT)
        self.assertIs(is_paper(*CASE, paper), True)
        paper[1][0].append(1)
        self.assertIs(is_paper(*CASE, paper), False)
        paper[1][0].pop()
        self.assertIs(is_paper(*CASE, paper), True)
        line = paper.pop()
        self.assertIs(is_paper(*CASE, paper), False)
        paper.insert(0, line)
        self.assertIs(is_paper(*CASE, paper), True)


def changed_papers(source, case, paper):
    """The paper with one thing in it otherwise than before, in many manners."""
    changing = changers_of(case[1], case[2])
    place = source.randrange(len(paper))
    before, (houses, told), behind = paper[:place], paper[place], paper[place + 1:]
    lines = [
        (houses, SAFE), (houses[::-1], told), (houses[1:], told), (houses[:-1], told), (houses + houses[-1:], told),
        (houses + [source.randrange(6)], told), (sorted(houses + [source.randrange(6)]), told), (changing, SAFE),
        (tuple(houses), told), (houses, ("bad", source.randint(-1, len(case[3])), source.randint(-1, 16))),
        (houses, ("bad", source.randint(-1, len(case[3])), told[-1])), (houses, ("bad", 0, source.randrange(16))),
        [houses, told], (houses, list(told)), (houses, told, told), (houses, (told[0].upper(), *told[1:])),
        (list(map(bool, houses)), told),
    ]
    yield before + behind
    yield paper + [paper[place]]
    for line in lines:
        yield before + [line] + behind
        yield paper + [line]
    if len(paper) > 1:
        yield [(one[0], other[1]) for one, other in zip(paper, behind + before + [paper[place]])]


class AgainstTheModel(unittest.TestCase):
    def test_drawn_papers_and_such_papers_changed(self):
        source = random.Random(31)
        told_of = {True: 0, False: 0}
        for count in range(500):
            case = drawn_case(source, Net, 5)
            paper = drawn_paper(source, *case, source.choice([0, 0.3, 0.8]))
            if paper is None:
                continue
            self.assertIs(is_paper(*case, paper), True)
            self.assertEqual(orders_of(*case), [])
            self.assertIs(is_paper(*case, order(*case)[1]), True)
            before = copy.deepcopy(case[1:])
            for other in changed_papers(source, case, paper):
                kept = copy.deepcopy(other)
                right = is_paper(*case, other)
                self.assertIs(right, paper_fault(*case, other) is None, (case[1:], other))
                self.assertEqual(other, kept)
                told_of[right] += 1
            self.assertEqual(case[1:], before)
        self.assertTrue(min(told_of.values()) > 300, told_of)

    def test_where_there_is_an_order_no_paper_is_right(self):
        source = random.Random(32)
        looked_at = 0
        for count in range(300):
            case = drawn_case(source, Net, 4)
            changing = changers_of(case[1], case[2])
            if order(*case)[0] == "none":
                continue
            sets = [list(some) for size in range(len(changing) + 1) for some in itertools.combinations(changing, size)]
            for time in range(4):
                paper = [source.choice([(houses, SAFE)] * 2 + bad_lines(*case, houses)) for houses in sets]
                self.assertIs(is_paper(*case, paper), False)
                self.assertIs(is_paper(*case, paper[:-1]), False)
                self.assertIs(is_paper(*case, [line for line in paper if source.random() < 0.8]), False)
                looked_at += 1
        self.assertTrue(looked_at > 200, looked_at)


if __name__ == "__main__":
    unittest.main()
