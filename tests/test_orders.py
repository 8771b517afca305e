import copy
import itertools
import random
import unittest

from model import ANYTHING, Stubborn, changers_of, drawn_case, keeps_all, orders_of, paper_fault
from nohalfway.errors import NoBooks, NoSaying
from nohalfway.nets import Net
from nohalfway.orders import changers, is_safe, order

# Three houses in a row, each with a door out: 0.0, 1.1, 2.1.
NET = Net([2, 3, 2], [((0, 1), (1, 0)), ((1, 2), (2, 0))])
AHEAD = [[("xxxx", 0, 1)], [("xxxx", 0, 2)], [("xxxx", 0, 1)]]
EMPTY = [[], [], []]
LEAVES = ("leaves", "xxxx", (0, 0))
# By these books a letter that comes in by 0.0 goes out there again.
BACK = [[("xxxx", None, 0)], [("xxxx", None, 0)], [("xxxx", None, 0)]]
# Two houses of which each sends all to the other one or out: where both send to the other one, letters go round.
TWO = Net([2, 2], [((0, 1), (1, 1))])
OUT, OVER = [("xxxx", None, 0)], [("xxxx", None, 1)]


class Changers(unittest.TestCase):
    def test_houses_whose_books_are_unlike(self):
        self.assertEqual(changers(AHEAD, AHEAD), [])
        self.assertEqual(changers(AHEAD, copy.deepcopy(AHEAD)), [])
        self.assertEqual(changers(AHEAD, EMPTY), [0, 1, 2])
        self.assertEqual(changers(EMPTY, [[], [("xxxx", None, None)], []]), [1])
        self.assertEqual(changers([[("xxxx", None, 0)], [], [("xxxx", 0, 0)]], [[], [], [("xxxx", 0, 1)]]), [0, 2])

    def test_books_that_mean_the_same_but_are_unlike_lists(self):
        self.assertEqual(changers([[]], [[("xxxx", None, None)]]), [0])
        self.assertEqual(changers([[("xxxx", 0, 0)]], [[("xxxx", None, 0)]]), [0])
        self.assertEqual(changers([[("xxxx", 0, 0)] * 2], [[("xxxx", 0, 0)]]), [0])
        rows = [("0000", 0, 0), ("1111", 0, 0)]
        self.assertEqual(changers([rows], [rows[::-1]]), [0])
        self.assertEqual(changers([[("xxxx", 0, None)]], [[("xxxx", 0, 0)]]), [0])
        self.assertEqual(changers([[("xxxx", None, 0)]], [[("xxxx", 0, 0)]]), [0])

    def test_the_list_is_the_askers_own_and_nothing_is_changed(self):
        old, new = copy.deepcopy(AHEAD), copy.deepcopy(EMPTY)
        told = changers(old, new)
        told.clear()
        self.assertEqual(changers(old, new), [0, 1, 2])
        self.assertEqual((old, new), (AHEAD, EMPTY))

    def test_drawn_books(self):
        source = random.Random(11)
        for count in range(200):
            net, old, new, sayings = drawn_case(source, Net, 6, 0.5)
            self.assertEqual(changers(old, new), changers_of(old, new))


class IsSafe(unittest.TestCase):
    def test_each_set_of_a_small_change(self):
        sayings = [LEAVES]
        safe = [houses for houses in ([], [0], [1], [2], [0, 1], [0, 2], [1, 2], [0, 1, 2])
                if is_safe(NET, BACK, AHEAD, sayings, houses)]
        # Where house 0 alone sends ahead, or not all behind it do, a letter comes back and is dropped.
        self.assertEqual(safe, [[], [1], [2], [1, 2], [0, 1, 2]])

    def test_it_is_true_or_false(self):
        self.assertIs(is_safe(NET, BACK, AHEAD, [LEAVES], []), True)
        self.assertIs(is_safe(NET, BACK, AHEAD, [LEAVES], [0]), False)

    def test_without_sayings_all_is_safe(self):
        for size in range(4):
            for houses in itertools.combinations(range(3), size):
                self.assertIs(is_safe(NET, BACK, AHEAD, [], list(houses)), True)

    def test_all_sayings_are_looked_at(self):
        right, wrong = LEAVES, ("never", "1010", (0, 0), 0)
        for count in range(8):
            sayings = [right] * count + [wrong] + [right] * (7 - count)
            self.assertIs(is_safe(NET, BACK, AHEAD, sayings, []), False)
        self.assertIs(is_safe(NET, BACK, AHEAD, [right] * 8, []), True)

    def test_an_address_alone_makes_a_set_unsafe(self):
        for address in [0, 1, 7, 15]:
            new = [[(f"{address:04b}", None, None), ("xxxx", None, 0)], BACK[1], BACK[2]]
            self.assertIs(is_safe(NET, BACK, new, [LEAVES], [0]), False)
            self.assertIs(is_safe(NET, BACK, new, [LEAVES], []), True)

    def test_more_than_eight_sayings_are_not_refused_here(self):
        self.assertIs(is_safe(NET, BACK, AHEAD, [LEAVES] * 9, []), True)
        self.assertIs(is_safe(NET, BACK, AHEAD, [LEAVES] * 8 + [("never", "xxxx", (0, 0), 0)], []), False)

    def test_books_of_more_than_twelve_rows_are_not_refused_here(self):
        long = [[("0000", 1, 0)] * 13 + book for book in AHEAD]
        self.assertIs(is_safe(NET, BACK, long, [LEAVES], [0, 1, 2]), True)
        self.assertIs(is_safe(NET, BACK, long, [LEAVES], [0]), False)

    def test_drawn_sets_and_nothing_is_changed(self):
        source = random.Random(12)
        told_of = {True: 0, False: 0}
        for count in range(200):
            case = drawn_case(source, Net, 4)
            before = copy.deepcopy(case[1:])
            changing = changers_of(case[1], case[2])
            for size in range(len(changing) + 1):
                for houses in itertools.combinations(changing, size):
                    asked = list(houses)
                    told = is_safe(*case, asked)
                    self.assertIs(told, keeps_all(*case, houses))
                    self.assertEqual(asked, list(houses))
                    told_of[told] += 1
            self.assertEqual(case[1:], before)
        self.assertTrue(min(told_of.values()) > 100, told_of)


class Orders(unittest.TestCase):
    def assert_order(self, net, old, new, sayings, right):
        told = order(net, old, new, sayings)
        self.assertEqual(told, ("order", right))
        self.assertEqual([type(told), type(told[1])], [tuple, list])
        self.assertEqual(right, min(orders_of(net, old, new, sayings)))

    def test_without_sayings_the_rising_list(self):
        self.assert_order(NET, EMPTY, AHEAD, [], [0, 1, 2])
        self.assert_order(NET, AHEAD, EMPTY, [], [0, 1, 2])

    def test_where_no_house_changes(self):
        self.assert_order(NET, AHEAD, copy.deepcopy(AHEAD), [], [])
        self.assert_order(NET, AHEAD, copy.deepcopy(AHEAD), [LEAVES], [])
        self.assert_order(NET, EMPTY, EMPTY, [], [])
        self.assert_order(Net([1], []), [[]], [[]], [], [])

    def test_where_one_house_changes(self):
        new = [AHEAD[0], [("xxxx", None, 1)], AHEAD[2]]
        self.assert_order(NET, AHEAD, new, [LEAVES], [1])

    def test_the_far_end_first(self):
        # House 0 must wait for both others.
        self.assert_order(NET, BACK, AHEAD, [LEAVES], [1, 2, 0])
        old = [BACK[0], [("xxxx", 2, 1)], BACK[2]]
        self.assert_order(NET, old, AHEAD, [LEAVES], [1, 2, 0])
        old = [[("xxxx", 0, 0)], [("xxxx", 0, 1)], []]
        self.assert_order(NET, old, AHEAD, [LEAVES, ("noring", "xxxx", (0, 0))], [0, 2, 1])
        self.assert_order(NET, AHEAD, old, [LEAVES], [0, 1, 2])

    def test_against_the_houses_numbers(self):
        net = Net([3] * 6, [((house, 1), (house - 1, 0)) for house in range(1, 6)])
        old = [[("xxxx", None, 2)] for house in range(6)]
        new = [[("xxxx", None, 1)] for house in range(6)]
        must = [("by", "xxxx", (5, 0), 0)]
        self.assertEqual(order(net, old, new, must)[0], "none")
        self.assert_order(net, old, new, [("leaves", "xxxx", (5, 0))], [0, 1, 2, 3, 4, 5])
        # Without rows letters are dropped, so all that lies ahead on the way must be there first.
        old = [[] for house in range(5)] + [[("xxxx", None, 2)]]
        self.assert_order(net, old, new, [("leaves", "xxxx", (5, 0))], [0, 1, 2, 3, 4, 5])
        rising = Net([3] * 6, [((house, 1), (house + 1, 0)) for house in range(5)])
        old = [[("xxxx", None, 2)]] + [[] for house in range(5)]
        self.assert_order(rising, old, new, [("leaves", "xxxx", (0, 0))], [1, 2, 3, 4, 5, 0])

    def test_a_safe_first_house_that_leads_nowhere(self):
        # The first house alone may be changed at once, but then neither the second nor the third one.
        counts, wires = [3, 3, 3], [((0, 1), (1, 0)), ((0, 2), (2, 0)), ((1, 2), (2, 1))]
        old = [[("xxxx", 0, 0)], [("00xx", 0, 1)], [("01xx", 0, 2)]]
        new = [
            [("00xx", 0, 1), ("01xx", 0, 2), ("xxxx", 0, 0)],
            [("00xx", 0, 2), ("01xx", 2, 1)],
            [("01xx", 0, 1), ("00xx", 1, 2)],
        ]
        rights = []
        for names in itertools.permutations(range(3)):
            net = Net(counts, [tuple((names[house], number) for house, number in wire) for wire in wires])
            placed = [names.index(house) for house in range(3)]
            case = (net, [old[k] for k in placed], [new[k] for k in placed], [("leaves", "xxxx", (names[0], 0))])
            self.assertTrue(is_safe(*case, [names[0]]))
            rights.append(sorted(names[1:]) + [names[0]])
            self.assert_order(*case, rights[-1])
        self.assertEqual(sorted(rights), [[0, 1, 2], [0, 1, 2], [0, 2, 1], [0, 2, 1], [1, 2, 0], [1, 2, 0]])

    def test_a_change_that_is_bad_when_half_done(self):
        self.assertEqual(order(TWO, [OUT, OVER], [OVER, OUT], [("noring", "xxxx", (0, 0))]), ("order", [1, 0]))
        self.assertEqual(order(TWO, [OVER, OUT], [OUT, OVER], [("noring", "xxxx", (0, 0))]), ("order", [0, 1]))

    def test_the_list_is_the_askers_own(self):
        early = order(NET, BACK, AHEAD, [LEAVES])
        late = order(NET, BACK, AHEAD, [LEAVES])
        self.assertIsNot(early[1], late[1])
        early[1].clear()
        self.assertEqual(late, ("order", [1, 2, 0]))
        self.assertEqual(order(NET, BACK, AHEAD, [LEAVES]), ("order", [1, 2, 0]))
        same = order(NET, AHEAD, AHEAD, [])
        same[1].append(1)
        self.assertEqual(order(NET, AHEAD, AHEAD, []), ("order", []))

    def test_books_and_sayings_that_are_changed_between(self):
        old, new, sayings = copy.deepcopy(BACK), copy.deepcopy(AHEAD), [LEAVES]
        self.assertEqual(order(NET, old, new, sayings), ("order", [1, 2, 0]))
        sayings.clear()
        self.assertEqual(order(NET, old, new, sayings), ("order", [0, 1, 2]))
        new[1] = old[1]
        self.assertEqual(order(NET, old, new, sayings), ("order", [0, 2]))
        sayings.append(LEAVES)
        self.assertEqual(order(NET, old, new, sayings)[0], "none")


class Papers(unittest.TestCase):
    def assert_none(self, net, old, new, sayings):
        told = order(net, old, new, sayings)
        self.assertEqual([type(told), len(told), told[0]], [tuple, 2, "none"])
        self.assertIsNone(paper_fault(net, old, new, sayings, told[1]))
        self.assertEqual(orders_of(net, old, new, sayings), [])
        return told[1]

    def test_where_the_old_books_are_bad(self):
        paper = self.assert_none(NET, EMPTY, AHEAD, [LEAVES])
        self.assertIn(([], ("bad", 0, 0)), paper)

    def test_where_no_house_changes_and_the_books_are_bad(self):
        self.assertEqual(self.assert_none(NET, EMPTY, EMPTY, [LEAVES]), [([], ("bad", 0, 0))])
        paper = self.assert_none(NET, AHEAD, AHEAD, [LEAVES, ("never", "11x1", (0, 0), 2)])
        self.assertEqual([line[1][:2] for line in paper], [("bad", 1)])
        self.assertIn(paper[0][1][2], [13, 15])

    def test_where_the_new_books_are_bad(self):
        self.assert_none(NET, AHEAD, EMPTY, [LEAVES])
        self.assert_none(NET, AHEAD, [AHEAD[0], AHEAD[1], []], [LEAVES])
        self.assert_none(NET, BACK, AHEAD, [("never", "xxxx", (0, 0), 2)])

    def test_where_old_and_new_books_are_good_but_nothing_between(self):
        net = Net([3, 3], [((0, 1), (1, 1)), ((0, 2), (1, 2))])
        old = [[("xxxx", 0, 1)], [("xxxx", 1, 0)]]
        new = [[("xxxx", 0, 2)], [("xxxx", 2, 0)]]
        paper = self.assert_none(net, old, new, [("comes", "xxxx", (0, 0), (1, 0))])
        self.assertEqual(sorted(line[0] for line in paper), [[], [0], [1]])
        # Of one address alone the same is so.
        old = [[("0110", 0, 1), ("xxxx", 0, 0)], [("xxxx", 1, 0)]]
        new = [[("0110", 0, 2), ("xxxx", 0, 0)], [("xxxx", 2, 0)]]
        paper = self.assert_none(net, old, new, [("leaves", "xxxx", (0, 0))])
        self.assertEqual(sorted(paper), [([], ("safe",)), ([0], ("bad", 0, 6)), ([1], ("bad", 0, 6))])

    def test_where_each_house_alone_is_bad(self):
        net = Net([2] * 6, [])
        old = [[("xxxx", 0, 0)] for house in range(6)]
        new = [[("xxxx", 0, 1)] for house in range(6)]
        sayings = [("comes", "xxxx", (house, 0), (house, 0)) for house in range(6)]
        paper = self.assert_none(net, old, new, sayings)
        self.assertEqual(sorted(line[0] for line in paper), [[], [0], [1], [2], [3], [4], [5]])

    def test_where_only_the_set_of_all_six_changers_is_bad(self):
        # Only where all six send ahead do letters come from house 5 to house 0 again, and go round.
        net = Net([3, 2, 2, 2, 2, 2], [((house, 1), (house + 1, 0)) for house in range(5)] + [((5, 1), (0, 2))])
        old = [[] for house in range(6)]
        new = [[("xxxx", None, 1)] for house in range(6)]
        paper = self.assert_none(net, old, new, [("noring", "1x0x", (0, 0))])
        self.assertEqual(len(paper), 64)
        self.assertEqual([line for line in paper if line[1] != ("safe",)], [([0, 1, 2, 3, 4, 5], ("bad", 0, 8))])

    def test_each_list_of_a_paper_is_the_askers_own(self):
        asked = (NET, AHEAD, [[], [], [("1xxx", 0, 1)]], [LEAVES])
        paper = order(*asked)[1]
        kept = copy.deepcopy(order(*asked)[1])
        self.assertEqual(paper, kept)
        self.assertEqual(len({id(line[0]) for line in paper}), len(paper))
        for line in paper:
            line[0].append(9)
        paper.clear()
        self.assertEqual(order(*asked)[1], kept)
        self.assertIsNone(paper_fault(*asked, order(*asked)[1]))


class AgainstTheModel(unittest.TestCase):
    def look_at(self, case, told_of):
        before = copy.deepcopy(case[1:])
        told = order(*case)
        rights = orders_of(*case)
        if rights:
            self.assertEqual(told, ("order", min(rights)))
        else:
            self.assertEqual(told[0], "none")
            self.assertIsNone(paper_fault(*case, told[1]))
        self.assertEqual(case[1:], before)
        told_of[told[0]] = told_of.get(told[0], 0) + 1

    def test_drawn_changes(self):
        source = random.Random(13)
        told_of = {}
        for count in range(600):
            self.look_at(drawn_case(source, Net, 4), told_of)
        self.assertTrue(min(told_of.values()) > 50, told_of)

    def test_drawn_changes_whose_old_books_are_safe(self):
        source = random.Random(14)
        told_of = {}
        while sum(told_of.values()) < 120:
            case = drawn_case(source, Net, 6, 1)
            if len(changers_of(case[1], case[2])) > 2 and case[3] and keeps_all(*case, []):
                self.look_at(case, told_of)
        self.assertTrue(min(told_of.values()) > 10, told_of)


class TheLookThroughPapers(unittest.TestCase):
    """The tests' own look is held against papers that are wrong, so that it would tell a wrong one."""

    def setUp(self):
        net = Net([3, 3], [((0, 1), (1, 1)), ((0, 2), (1, 2))])
        old = [[("0110", 0, 1), ("xxxx", 0, 0)], [("xxxx", 1, 0)]]
        new = [[("0110", 0, 2), ("xxxx", 0, 0)], [("xxxx", 2, 0)]]
        self.case = (net, old, new, [("leaves", "xxxx", (0, 0))])
        self.right = [([], ("safe",)), ([0], ("bad", 0, 6)), ([1], ("bad", 0, 6))]

    def test_right_papers(self):
        self.assertIsNone(paper_fault(*self.case, self.right))
        self.assertIsNone(paper_fault(*self.case, self.right[::-1]))

    def test_wrong_papers(self):
        first, second, third = self.right
        for paper in [
            [], tuple(self.right), [second, third], [first, second], [first, third], [first, second, third, second],
            [first, second, third, ([0, 1], ("safe",))], [first, second, third, ([0, 1], ("bad", 0, 6))],
            [first, ([0], ("bad", 0, 5)), third], [first, ([0], ("bad", 1, 6)), third],
            [first, ([0], ("bad", 0, 22)), third], [first, ([0], ("safe",)), third], [first, ([0], ("bad", 0)), third],
            [first, ((0,), ("bad", 0, 6)), third], [first, [[0], ("bad", 0, 6)], third],
            [first, ([0], ["bad", 0, 6]), third], [first, second, third, ([2], ("bad", 0, 6))],
        ]:
            with self.subTest(paper):
                self.assertIsNotNone(paper_fault(*self.case, paper))


NO_BOOKS = ANYTHING + [
    [], [[], []], [[], [], [], []], ([], [], []), [[], [], None], [[("xxxx", 2, 0)], [], []],
    [[("xxxx", 0, True)], [], []], [[], [], [("xxxx", None, None)] * 13], [[], [], [("xxxx", None)]],
]
NO_SAYING = ANYTHING + [
    ("leaves", "xxxx", (0, 1)), ("leaves", "xxx", (0, 0)), ("leaves", "xxxx"), ("leaves", "xxxx", (0, 0), 0),
    ("goes", "xxxx", (0, 0)), ["leaves", "xxxx", (0, 0)], ("comes", "xxxx", (0, 0), (1, 0)), ("by", "xxxx", (0, 0), 3),
    ("by", "xxxx", (0, 0), True), ("never", "xxxx", (0, 0), -1), "leaves xxxx 0.0", [LEAVES], (LEAVES,),
]


class Refused(unittest.TestCase):
    def assert_refused(self, error, old, new, sayings):
        with self.subTest(old=repr(old)[:200], new=repr(new)[:200], sayings=repr(sayings)[:200]):
            with self.assertRaises(error) as caught:
                order(NET, old, new, sayings)
            self.assertIs(type(caught.exception), error)

    def test_no_books(self):
        for books in NO_BOOKS:
            self.assert_refused(NoBooks, books, AHEAD, [])
            self.assert_refused(NoBooks, AHEAD, books, [])
            self.assert_refused(NoBooks, books, books, [])

    def test_sayings_that_are_no_list(self):
        for sayings in ANYTHING + [LEAVES, (LEAVES,), {LEAVES: 1}, {LEAVES}, iter([LEAVES]), "leaves xxxx 0.0"]:
            self.assert_refused(NoSaying, BACK, AHEAD, sayings)

    def test_more_than_eight_sayings(self):
        for count in [9, 10, 300]:
            self.assert_refused(NoSaying, BACK, AHEAD, [LEAVES] * count)
        self.assertEqual(order(NET, BACK, AHEAD, [LEAVES] * 8), ("order", [1, 2, 0]))

    def test_one_that_is_no_saying(self):
        for thing in NO_SAYING:
            self.assert_refused(NoSaying, BACK, AHEAD, [thing])
            self.assert_refused(NoSaying, BACK, AHEAD, [LEAVES, thing])
            self.assert_refused(NoSaying, BACK, AHEAD, [thing, LEAVES])
            self.assert_refused(NoSaying, BACK, AHEAD, [LEAVES] * 7 + [thing])
            self.assert_refused(NoSaying, AHEAD, AHEAD, [thing])
            self.assert_refused(NoSaying, EMPTY, AHEAD, [LEAVES, thing])

    def test_no_books_goes_first(self):
        for books in NO_BOOKS:
            self.assert_refused(NoBooks, books, AHEAD, None)
            self.assert_refused(NoBooks, AHEAD, books, [LEAVES] * 9)
            self.assert_refused(NoBooks, books, AHEAD, Stubborn())
        for thing in NO_SAYING:
            self.assert_refused(NoBooks, [[], []], AHEAD, [thing])
            self.assert_refused(NoBooks, AHEAD, [[], []], [thing])

    def test_what_is_refused_stays_as_it_was(self):
        old, new, sayings = copy.deepcopy(BACK), copy.deepcopy(AHEAD), [LEAVES, ["leaves", "xxxx", (0, 0)]]
        self.assert_refused(NoSaying, old, new, sayings)
        self.assertEqual((old, new, sayings), (BACK, AHEAD, [LEAVES, ["leaves", "xxxx", (0, 0)]]))


if __name__ == "__main__":
    unittest.main()
