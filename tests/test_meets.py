import copy
import itertools
import random
import unittest

from meet_model import broken_throughout_of, drawn_change, leading_fault, meets_of
from model import broken_of, drawn_pattern, mixed_of, way_of
from nohalfway.meets import broken_throughout, leading, meets
from nohalfway.nets import Net

# Two houses, joined by their doors 1; outer doors 0.0 and 1.0.
TWO = Net([2, 2], [((0, 1), (1, 1))])
OUT, OVER, DROP = [("xxxx", None, 0)], [("xxxx", None, 1)], [("xxxx", None, None)]
# House 1 sends back by its old book alone, house 0 sends back by its new book alone.
ONCE_BACK = ([[("xxxx", 0, 1)], OVER], [OVER, OUT])
START = (0, 0)
WORDS = ["comes", "leaves", "noring", "by", "never"]
OTHER_GOALS = [
    ("at",), ("at", 0, 0), ("at", 9), ("at", -1), ("at", 10 ** 400), ("AT", 0), ("at ", 0), ("out",), ("out", 0),
    ("out", 0, 9), ("out", -1, 0), ("out", 0, 0, 0), ("drop",), ("drop", 9), ("drop", 0, 0), ("ring", 0), ("ring", 1),
    ("Ring",), ("rings",), ("lost", 0), ("lost",), ("",), ("", 0), ("step",), ("go", 0), ("wait",),
]


def asked_of(old, new, row, net=TWO, door=START, address=0):
    return net, old, new, row, door, address


class Told(unittest.TestCase):
    def assert_meets(self, right, *asked):
        told = meets(*asked)
        self.assertEqual(told, right)
        self.assertEqual(told, meets_of(*asked))
        self.assertEqual({type(told)} | {type(thing) for thing in told}, {list, tuple})
        net, things = asked[0], set(told) | set(OTHER_GOALS) | {("ring",)}
        things |= {(word, house) for word in ("at", "drop") for house in range(net.many)}
        things |= {("out", house, number) for house in range(net.many) for number in range(net.count(house))}
        for goal in sorted(things, key=repr):
            with self.subTest(goal=goal):
                numbers = leading(*asked, goal)
                if goal in told:
                    self.assertIsNone(leading_fault(*asked, goal, numbers), numbers)
                else:
                    self.assertIsNone(numbers)


class Met(Told):
    def test_without_any_change_it_is_the_way_by_the_old_books(self):
        for row in [[], [0], [1], [0, 1], [1, 0]]:
            self.assert_meets([("at", 0), ("out", 0, 0)], *asked_of([OUT, OVER], [OUT, OVER], row))
            self.assert_meets([("at", 0), ("at", 1), ("out", 1, 0)], *asked_of([OVER, OUT], [OVER, OUT], row))
            self.assert_meets([("at", 0), ("at", 1), ("ring",)], *asked_of([OVER, OVER], [OVER, OVER], row))
            self.assert_meets([("at", 0), ("drop", 0)], *asked_of([[], []], [[], []], row))

    def test_a_row_of_no_houses_leaves_the_new_books_aside(self):
        self.assert_meets([("at", 0), ("out", 0, 0)], *asked_of([OUT, OUT], [OVER, DROP], []))

    def test_houses_that_are_not_in_the_row_keep_their_old_books(self):
        self.assert_meets([("at", 0), ("at", 1), ("out", 0, 0), ("out", 1, 0)],
                          *asked_of([OUT, OUT], [OVER, DROP], [0]))
        self.assert_meets([("at", 0), ("out", 0, 0)], *asked_of([OUT, OUT], [OVER, DROP], [1]))

    def test_the_order_of_the_row_tells(self):
        old, new = [OVER, OUT], [OUT, OVER]
        self.assert_meets([("at", 0), ("at", 1), ("out", 0, 0), ("out", 1, 0)], *asked_of(old, new, [0, 1]))
        self.assert_meets([("at", 0), ("at", 1), ("out", 0, 0), ("out", 1, 0), ("ring",)], *asked_of(old, new, [1, 0]))
        self.assert_meets([("at", 0), ("at", 1), ("drop", 1), ("out", 0, 0), ("out", 1, 0)],
                          *asked_of([OUT, DROP], [OVER, OUT], [0, 1]))
        self.assert_meets([("at", 0), ("at", 1), ("out", 0, 0), ("out", 1, 0)],
                          *asked_of([OUT, DROP], [OVER, OUT], [1, 0]))

    def test_a_change_may_come_ahead_of_the_letter_or_behind_it(self):
        self.assert_meets([("at", 0), ("drop", 0), ("out", 0, 0)], *asked_of([OUT, []], [DROP, []], [0]))

    def test_half_by_one_and_half_by_the_other(self):
        # By the old books and by the new ones it leaves; between house 0 and house 1 the book of house 1 is changed.
        old = [OVER, [("xxxx", None, 0)]]
        new = [OUT, DROP]
        self.assertEqual([way_of(TWO, books, START, 0)[1][0] for books in (old, new)], ["out", "out"])
        self.assertIn(("drop", 1), meets(*asked_of(old, new, [0, 1])))
        self.assertEqual(leading(*asked_of(old, new, [0, 1]), ("drop", 1)), [0, 2])

    def test_nothing_is_changed_back(self):
        # It comes to house 0 twice; only by the new book, and then the old one, would it be dropped there.
        net = Net([3], [((0, 1), (0, 2))])
        old, new = [[("xxxx", 0, 0), ("xxxx", 2, None)]], [[("xxxx", 0, 1), ("xxxx", 2, 0)]]
        self.assert_meets([("at", 0), ("out", 0, 0)], *asked_of(old, new, [0], net))
        self.assert_meets([("at", 0), ("drop", 0), ("out", 0, 0)], *asked_of(new, old, [0], net))

    def test_a_door_twice_is_no_ring_where_something_was_changed_between(self):
        self.assert_meets([("at", 0), ("at", 1), ("drop", 0), ("out", 1, 0)], *asked_of(*ONCE_BACK, [1, 0]))
        self.assert_meets([("at", 0), ("at", 1), ("drop", 0), ("out", 1, 0), ("ring",)], *asked_of(*ONCE_BACK, [0, 1]))
        # It may well come to the door 1.1 twice, but by 0 and then by 2.
        self.assertEqual(
            leading_fault(*asked_of(*ONCE_BACK, [1, 0]), ("out", 1, 0), [0, 0, 2, 2]), None,
        )

    def test_a_ring_that_does_not_begin_at_the_first_door(self):
        net = Net([2, 2, 2], [((0, 1), (1, 0)), ((1, 1), (2, 0))])
        old, new = [OVER, OVER, OUT], [OVER, OVER, OUT]
        self.assert_meets([("at", 0), ("at", 1), ("at", 2), ("ring",)], *asked_of(old, new, [2, 1, 0], net))

    def test_only_addresses_that_fit(self):
        old, new = [[("1xxx", None, 1)], []], [[("x1xx", None, 0)], OUT]
        for address, right in [
            (0, [("at", 0), ("drop", 0)]), (4, [("at", 0), ("drop", 0), ("out", 0, 0)]),
            (8, [("at", 0), ("at", 1), ("drop", 0), ("drop", 1), ("out", 1, 0)]),
            (12, [("at", 0), ("at", 1), ("drop", 1), ("out", 0, 0), ("out", 1, 0)]),
        ]:
            self.assert_meets(right, *asked_of(old, new, [0, 1], address=address))

    def test_from_another_outer_door(self):
        self.assert_meets([("at", 0), ("at", 1), ("out", 0, 0), ("out", 1, 0), ("ring",)],
                          *asked_of([OVER, OUT], [OUT, OVER], [1, 0], door=(1, 0)))

    def test_sorted_as_tuples(self):
        net = Net([4, 2, 2], [((0, 1), (1, 0)), ((0, 2), (2, 0))])
        old = [[("xxxx", 0, 1)], [("xxxx", None, 1)], DROP]
        new = [[("xxxx", 0, 2)], DROP, OVER]
        right = [("at", 0), ("at", 1), ("at", 2), ("drop", 1), ("drop", 2), ("out", 1, 1), ("out", 2, 1)]
        self.assert_meets(right, *asked_of(old, new, [1, 0, 2], net))

    def test_goals_with_truths(self):
        asked = asked_of([OVER, OUT], [OUT, OVER], [1, 0])
        for goal in [("at", True), ("at", False), ("out", False, 0), ("out", 1, False)]:
            self.assertIsNone(leading(*asked, goal))

    def test_drawn_changes(self):
        source = random.Random(61)
        counted = {}
        for count in range(1000):
            net, old, new, row = drawn_change(source, Net, source.choice([2, 3, 4, 5, 6, 6]))
            door, address = source.choice(net.outer()), source.randrange(16)
            before = copy.deepcopy((old, new, row))
            self.assert_meets(meets_of(net, old, new, row, door, address), net, old, new, row, door, address)
            self.assertEqual((old, new, row), before)
            for word, *more in meets(net, old, new, row, door, address):
                counted[word, len(row)] = counted.get((word, len(row)), 0) + 1
        self.assertEqual(set(counted), set(itertools.product(["at", "drop", "out", "ring"], range(7))))
        self.assertTrue(min(counted.values()) >= 3, counted)


class Own(unittest.TestCase):
    def test_each_list_is_the_askers_own(self):
        asked = asked_of([OVER, OUT], [OUT, OVER], [1, 0])
        early = meets(*asked)
        kept = list(early)
        early.clear()
        self.assertEqual(meets(*asked), kept)
        for goal in kept:
            early, late = leading(*asked, goal), leading(*asked, goal)
            self.assertIsNot(early, late)
            early.append(None)
            late.clear()
            self.assertIsNone(leading_fault(*asked, goal, leading(*asked, goal)))

    def test_nothing_that_is_handed_in_is_changed(self):
        old, new, row = copy.deepcopy([OVER, OUT]), copy.deepcopy([OUT, OVER]), [1, 0]
        meets(TWO, old, new, row, START, 3)
        leading(TWO, old, new, row, START, 3, ("ring",))
        for word in WORDS:
            broken_throughout(TWO, old, new, row, saying_of(word, "xxxx", START, TWO.outer()[1], 1))
        self.assertEqual((old, new, row), ([OVER, OUT], [OUT, OVER], [1, 0]))
        self.assertEqual(TWO.wires(), [((0, 1), (1, 1))])


def saying_of(word, pattern, door, other, house):
    more = {"comes": (other,), "by": (house,), "never": (house,)}.get(word, ())
    return (word, pattern, door, *more)


class Throughout(unittest.TestCase):
    def assert_broken(self, right, old, new, row, saying, net=TWO):
        with self.subTest(saying=saying, row=row):
            self.assertEqual(broken_throughout(net, old, new, row, saying), right)
            self.assertEqual(broken_throughout_of(net, old, new, row, saying), right)

    def test_comes(self):
        saying = ("comes", "xxxx", START, (1, 0))
        self.assert_broken(None, [OVER, OUT], [OUT, OVER], [], saying)
        self.assert_broken(0, [OVER, OUT], [OUT, OUT], [0], saying)
        self.assert_broken(None, [OVER, OUT], [OUT, OUT], [1], saying)
        self.assert_broken(0, [OVER, OUT], [OVER, OVER], [1], saying)
        self.assert_broken(0, [OVER, OUT], [OVER, DROP], [0, 1], saying)
        self.assert_broken(None, [OVER, OUT], [OVER, [("xxxx", 1, 0)]], [0, 1], saying)
        self.assert_broken(0, [OVER, OUT], [OVER, OUT], [], ("comes", "xxxx", START, START))

    def test_leaves(self):
        saying = ("leaves", "xxxx", START)
        self.assert_broken(None, [OVER, OUT], [OUT, OVER], [0, 1], saying)
        self.assert_broken(0, [OVER, OUT], [OUT, OVER], [1, 0], saying)
        self.assert_broken(0, [OUT, DROP], [OVER, OUT], [0, 1], saying)
        self.assert_broken(None, [OUT, DROP], [OVER, OUT], [1, 0], saying)

    def test_noring(self):
        saying = ("noring", "xxxx", START)
        self.assert_broken(None, [OVER, OUT], [OUT, OVER], [0, 1], saying)
        self.assert_broken(0, [OVER, OUT], [OUT, OVER], [1, 0], saying)
        self.assert_broken(None, [OUT, DROP], [OVER, OUT], [0, 1], saying)
        self.assert_broken(None, *ONCE_BACK, [1, 0], saying)
        self.assert_broken(0, *ONCE_BACK, [0, 1], saying)

    def test_never(self):
        saying = ("never", "xxxx", START, 1)
        self.assert_broken(None, [OUT, OUT], [OVER, OUT], [1], saying)
        self.assert_broken(0, [OUT, OUT], [OVER, OUT], [0], saying)
        self.assert_broken(0, [OVER, OUT], [OUT, OUT], [0], saying)
        self.assert_broken(0, [OUT, OUT], [OUT, OUT], [], ("never", "xxxx", START, 0))

    def test_by(self):
        saying = ("by", "xxxx", START, 1)
        self.assert_broken(None, [OVER, OUT], [OVER, DROP], [0, 1], saying)
        self.assert_broken(None, [OVER, OUT], [OVER, OVER], [0, 1], saying)
        self.assert_broken(0, [OVER, OUT], [OUT, OUT], [0], saying)
        self.assert_broken(0, [OVER, OUT], [DROP, OUT], [1, 0], saying)
        self.assert_broken(None, [OVER, OUT], [OUT, OUT], [1], saying)

    def test_by_its_own_first_house(self):
        for books in [[OUT, OUT], [OVER, OVER], [DROP, DROP]]:
            self.assert_broken(None, books, [OUT, OVER], [0, 1], ("by", "xxxx", START, 0))

    def test_by_is_broken_by_a_ring_that_has_no_door_of_the_house(self):
        net = Net([3, 2, 2], [((0, 1), (1, 0)), ((0, 2), (2, 0))])
        # Back and forth between houses 0 and 1, or on to house 2.
        rounds, on = [("xxxx", None, 1)], [("xxxx", None, 2)]
        self.assert_broken(0, [on, OUT, OUT], [rounds, OUT, OUT], [0], ("by", "xxxx", START, 2), net)
        self.assert_broken(None, [on, OUT, OUT], [rounds, OUT, OUT], [1, 2], ("by", "xxxx", START, 2), net)
        # A ring that comes by the house is not against it, though ends and rings beside it are met.
        self.assert_broken(None, [on, OUT, OUT], [on, OUT, OVER], [0, 2], ("by", "xxxx", START, 2), net)
        # It may go round first by house 1 and come by house 2 then: the ring alone is enough against it.
        self.assert_broken(0, [rounds, OUT, OUT], [on, OUT, OUT], [0], ("by", "xxxx", START, 2), net)

    def test_the_least_address_of_the_pattern(self):
        old, new = [OVER, OUT], [[("11x1", None, 0)] + OVER, [("1xxx", None, None)] + OUT]
        row = [0, 1]
        self.assert_broken(8, old, new, row, ("leaves", "xxxx", START))
        self.assert_broken(9, old, new, row, ("leaves", "xxx1", START))
        self.assert_broken(None, old, new, row, ("leaves", "0xxx", START))
        self.assert_broken(13, old, new, row, ("by", "xxxx", START, 1))
        self.assert_broken(15, old, new, row, ("by", "xx11", START, 1))
        self.assert_broken(None, old, new, row, ("by", "10xx", START, 1))
        self.assert_broken(8, old, new, row, ("comes", "xxxx", START, (1, 0)))
        self.assert_broken(15, old, new, row, ("comes", "1111", START, (1, 0)))

    def test_all_books_of_one_set_keep_it_and_yet_it_is_broken(self):
        # Whichever of the row's first houses are changed, all letters leave; but not one that is between the houses.
        old, new, row, saying = [OVER, OUT], [OUT, DROP], [0, 1], ("leaves", "xxxx", START)
        for size in range(3):
            self.assertIsNone(broken_of(TWO, mixed_of(old, new, row[:size]), saying))
        self.assert_broken(0, old, new, row, saying)

    def test_drawn_sayings(self):
        source = random.Random(62)
        counted = {}
        for count in range(500):
            net, old, new, row = drawn_change(source, Net, source.choice([2, 3, 4, 5]))
            for word in WORDS:
                saying = saying_of(word, drawn_pattern(source), source.choice(net.outer()), source.choice(net.outer()),
                                   source.randrange(net.many))
                right = broken_throughout_of(net, old, new, row, saying)
                self.assertEqual(broken_throughout(net, old, new, row, saying), right)
                # What is kept throughout is kept whenever nothing is under way.
                if right is None:
                    for size in range(len(row) + 1):
                        self.assertIsNone(broken_of(net, mixed_of(old, new, row[:size]), saying))
                first = min(address for address in range(16) if saying[1].replace("x", "0") == f"{address:04b}")
                kind = (word, "kept" if right is None else "first" if right == first else "later")
                counted[kind] = counted.get(kind, 0) + 1
        self.assertEqual(set(counted), set(itertools.product(WORDS, ["kept", "first", "later"])))
        self.assertTrue(min(counted.values()) >= 3, counted)


if __name__ == "__main__":
    unittest.main()
