import copy
import itertools
import random
import unittest

from model import ANYTHING, drawn_books, drawn_net
from nohalfway.nets import Net
from nohalfway.plans import fault, is_plan, plain_plan
from refused import NO_STEP, RefusedAsFault
from run_model import drawn_plan, fault_of, faults_of, is_plan_of, losses_of

WAIT = ("wait",)
# Three houses in a row; outer doors 0.0, 1.1 and 2.1.
NET = Net([2, 3, 2], [((0, 1), (1, 0)), ((1, 2), (2, 0))])
# From 0.0 all goes by all three houses, from 1.1 by house 1 to house 2, from 2.1 out there again.
AHEAD = [[("xxxx", 0, 1)], [("xxxx", None, 2)], [("xxxx", None, 1)]]
# What comes in goes out by the same door.
BACK = [[("xxxx", None, 0)], [("xxxx", None, 1)], [("xxxx", None, 1)]]
EMPTY = [[], [], []]
PLAIN = [
    ("teach", 0), ("teach", 1), ("teach", 2), ("turn", 0), ("turn", 1), ("turn", 2), WAIT,
    ("forget", 0), ("forget", 1), ("forget", 2),
]


class IsPlan(unittest.TestCase):
    def look_at(self, thing, right, net=NET):
        with self.subTest(repr(thing)[:200]):
            self.assertIs(is_plan(thing, net), right)
            self.assertIs(is_plan_of(thing, net.many), right)

    def test_plans(self):
        for plan in [[], [WAIT], PLAIN, PLAIN[::-1], [("teach", 2)], [("turn", 0)], [("forget", 1)],
                     [("forget", 0), ("turn", 0), ("teach", 0)], [("teach", 0), ("turn", 0), ("forget", 0)]]:
            self.look_at(plan, True)

    def test_waits_more_than_once(self):
        self.look_at([WAIT, WAIT], True)
        self.look_at([WAIT] + PLAIN + [WAIT], True)
        self.look_at([step for part in PLAIN for step in (WAIT, part, WAIT)], True)

    def test_forty_steps_and_more(self):
        self.look_at([WAIT] * 40, True)
        self.look_at(PLAIN + [WAIT] * 30, True)
        self.look_at([WAIT] * 41, False)
        self.look_at(PLAIN + [WAIT] * 31, False)
        self.look_at([WAIT] * 300, False)

    def test_nothing_but_a_wait_twice_for_the_same_house(self):
        for step in PLAIN:
            if step != WAIT:
                self.look_at([step, step], False)
                self.look_at([step, WAIT, step], False)
                self.look_at(PLAIN + [step], False)
                self.look_at([step] + PLAIN, False)
        self.look_at(PLAIN + PLAIN, False)

    def test_houses_that_there_are(self):
        for many, word in itertools.product(range(1, 7), ["teach", "turn", "forget"]):
            for house in range(-7, 8):
                self.look_at([(word, house)], 0 <= house < many, Net([1] * many, []))

    def test_truths_are_no_houses(self):
        # Though to Python they are alike, the one is no plan.
        self.assertEqual([("teach", True)], [("teach", 1)])
        self.look_at([("teach", 1)], True)
        self.look_at([("teach", True)], False)
        self.look_at([("turn", False)], False)
        self.look_at(PLAIN[:-1] + [("forget", True)], False)

    def test_no_step(self):
        for thing in NO_STEP:
            self.look_at([thing], False)
            self.look_at([WAIT, thing], False)
            self.look_at([thing] + PLAIN, False)
            self.look_at(PLAIN + [thing], False)
            self.look_at([thing, thing], False)

    def test_no_list(self):
        for thing in ANYTHING + [WAIT, ("teach", 0), (WAIT,), tuple(PLAIN), {WAIT: 0}, {WAIT}, iter(PLAIN), "teach 0"]:
            self.look_at(thing, False)

    def test_nothing_is_changed(self):
        plan = list(PLAIN)
        is_plan(plan, NET)
        self.assertEqual(plan, PLAIN)

    def test_drawn_plans(self):
        source = random.Random(41)
        told_of = {True: 0, False: 0}
        for count in range(500):
            net = drawn_net(source, Net)
            plan = drawn_plan(source, net.many, 0.5, 12)
            for more in range(source.choice([0, 0, 1, 2, 30])):
                plan.insert(source.randint(0, len(plan)), source.choice(PLAIN + [WAIT] * 100))
            right = is_plan_of(plan, net.many)
            self.assertIs(is_plan(plan, net), right)
            told_of[right] += 1
        self.assertTrue(min(told_of.values()) > 100, told_of)


class PlainPlan(unittest.TestCase):
    def test_as_told(self):
        self.assertEqual(plain_plan(NET), PLAIN)
        self.assertEqual(plain_plan(Net([4], [])), [("teach", 0), ("turn", 0), WAIT, ("forget", 0)])
        self.assertEqual(
            plain_plan(Net([1, 1], [((0, 0), (1, 0))])),
            [("teach", 0), ("teach", 1), ("turn", 0), ("turn", 1), WAIT, ("forget", 0), ("forget", 1)],
        )
        for many in range(1, 7):
            plan = plain_plan(Net([2] * many, []))
            self.assertEqual(len(plan), 3 * many + 1)
            self.assertIs(is_plan(plan, Net([2] * many, [])), True)
            self.assertEqual({type(plan)} | {type(step) for step in plan}, {list, tuple})

    def test_the_list_is_the_askers_own(self):
        early, late = plain_plan(NET), plain_plan(NET)
        self.assertIsNot(early, late)
        early.clear()
        self.assertEqual(late, PLAIN)
        late[0] = None
        self.assertEqual(plain_plan(NET), PLAIN)

    def test_it_is_faultless_whatever_the_books(self):
        source = random.Random(42)
        for count in range(60):
            net = drawn_net(source, Net)
            old, new = drawn_books(source, net), drawn_books(source, net)
            self.assertIsNone(fault(net, old, new, plain_plan(net)))
        for old, new in itertools.product([AHEAD, BACK, EMPTY], repeat=2):
            self.assertIsNone(fault(NET, old, new, PLAIN))


class Faults(unittest.TestCase):
    def assert_fault(self, right, old, new, plan, net=NET):
        with self.subTest(plan=plan):
            before = copy.deepcopy((old, new, plan))
            told = fault(net, old, new, plan)
            self.assertEqual(told, right)
            self.assertEqual(told, fault_of(net, old, new, plan))
            self.assertEqual((old, new, plan), before)
            self.assertEqual(losses_of(net, old, new, plan) == set(), right is None)
            if right is not None:
                self.assertEqual([type(told), *map(type, told)], [tuple, int, tuple, int, int])

    def test_plans_that_do_little(self):
        for plan in [[], [WAIT], [WAIT] * 40, PLAIN[:3], PLAIN[:6], PLAIN[:7]]:
            self.assert_fault(None, AHEAD, BACK, plan)
            self.assert_fault(None, EMPTY, AHEAD, plan)

    def test_a_turn_ahead_of_a_teach(self):
        self.assert_fault((0, (0, 0), 0, 0), BACK, AHEAD, [("turn", 0)])
        self.assert_fault((0, (1, 1), 0, 1), BACK, AHEAD, [("turn", 1)])
        self.assert_fault((0, (2, 1), 0, 2), BACK, AHEAD, [("turn", 2)])
        self.assert_fault((0, (0, 0), 0, 0), BACK, AHEAD, [("turn", 0), ("teach", 0), ("teach", 1), ("teach", 2)])
        self.assert_fault((1, (0, 0), 0, 1), BACK, AHEAD, [("teach", 0), ("turn", 0), ("teach", 1), ("teach", 2)])
        self.assert_fault((2, (0, 0), 0, 2), BACK, AHEAD, [("teach", 0), ("teach", 1), ("turn", 0), ("teach", 2)])
        self.assert_fault((2, (0, 0), 0, 1), BACK, AHEAD, [("teach", 0), ("teach", 2), ("turn", 0), ("teach", 1)])
        self.assert_fault(None, BACK, AHEAD, [("teach", 2), ("teach", 0), ("teach", 1), ("turn", 0)])

    def test_the_first_house_on_the_way_that_is_not_taught(self):
        net = Net([2, 2, 2, 2], [((3, 1), (1, 0)), ((1, 1), (2, 0)), ((2, 1), (0, 0))])
        new = [[("xxxx", None, 1)] for house in range(4)]
        order = [3, 1, 2, 0]
        for taught in range(5):
            plan = [("teach", house) for house in order[:taught]] + [("turn", 3)]
            right = (taught, (3, 0), 0, order[taught]) if taught < 4 else None
            self.assert_fault(right, [[]] * 4, new, plan, net)
        self.assert_fault((2, (3, 0), 0, 1), [[]] * 4, new, [("teach", 0), ("teach", 3), ("turn", 3)], net)

    def test_a_turn_needs_only_the_houses_on_new_ways_from_its_own_doors(self):
        self.assert_fault(None, AHEAD, BACK, [("teach", 0), ("turn", 0)])
        self.assert_fault(None, AHEAD, BACK, [("teach", 1), ("turn", 1), ("teach", 2), ("turn", 2)])
        self.assert_fault(None, BACK, AHEAD, [("teach", 1), ("teach", 2), ("turn", 1)])
        self.assert_fault((3, (0, 0), 0, 0), BACK, AHEAD, [("teach", 1), ("teach", 2), ("turn", 1), ("turn", 0)])
        # A house without outer doors may be turned at any time.
        net = Net([2, 2, 2], [((0, 1), (1, 0)), ((1, 1), (2, 0))])
        books = [[("xxxx", None, 1)] for house in range(3)]
        self.assert_fault(None, books, books, [("turn", 1)], net)
        self.assert_fault((1, (0, 0), 0, 0), books, books, [("turn", 1), ("turn", 0)], net)

    def test_houses_whose_books_are_alike_must_be_taught_too(self):
        self.assert_fault((0, (0, 0), 0, 0), AHEAD, copy.deepcopy(AHEAD), [("turn", 0)])
        self.assert_fault((0, (0, 0), 0, 0), EMPTY, EMPTY, [("turn", 0)])

    def test_a_forget_without_a_wait_behind_the_turn(self):
        taught, turned = PLAIN[:3], PLAIN[3:6]
        self.assert_fault((0, (0, 0), 0, 0), AHEAD, BACK, [("forget", 0)])
        self.assert_fault((0, (0, 0), 0, 1), AHEAD, BACK, [("forget", 1)])
        self.assert_fault((0, (0, 0), 0, 2), AHEAD, BACK, [("forget", 2)])
        self.assert_fault((6, (0, 0), 0, 2), AHEAD, BACK, taught + turned + [("forget", 2)])
        self.assert_fault((7, (0, 0), 0, 2), AHEAD, BACK, [WAIT] + taught + turned + [("forget", 2), WAIT])
        self.assert_fault(None, AHEAD, BACK, taught + turned + [WAIT, ("forget", 2)])

    def test_a_wait_is_one_for_the_doors_of_houses_turned_ahead_of_it(self):
        taught = PLAIN[:3]
        plan = taught + [("turn", 0), ("turn", 1), WAIT, ("turn", 2), ("forget", 2)]
        self.assert_fault((7, (2, 1), 0, 2), AHEAD, BACK, plan)
        plan = taught + [("turn", 0), WAIT, ("turn", 1), ("turn", 2), ("forget", 2)]
        self.assert_fault((7, (1, 1), 0, 2), AHEAD, BACK, plan)
        plan = taught + [("turn", 0), WAIT, ("forget", 0), ("turn", 1), WAIT, ("forget", 1), ("turn", 2), WAIT,
                         ("forget", 2)]
        self.assert_fault(None, AHEAD, BACK, plan)
        plan = taught + [("turn", 0), WAIT, ("forget", 1), ("turn", 1), WAIT]
        self.assert_fault((5, (1, 1), 0, 1), AHEAD, BACK, plan)
        # House 0 is on ways from its own door alone, and house 2 is on ways from all doors.
        self.assert_fault(None, AHEAD, BACK, taught + [("turn", 0), WAIT, ("forget", 0)])
        self.assert_fault((5, (1, 1), 0, 2), AHEAD, BACK, taught + [("turn", 0), WAIT, ("forget", 2)])

    def test_one_wait_serves_all_forgets_behind_it(self):
        plan = PLAIN[:6] + [WAIT] + PLAIN[:6:-1] + [WAIT]
        self.assert_fault(None, AHEAD, BACK, plan)
        self.assert_fault(None, AHEAD, BACK, PLAIN[:6] + [WAIT, WAIT, ("forget", 0), WAIT, ("forget", 1)])

    def test_a_wait_ahead_of_the_turn_does_not_serve(self):
        plan = PLAIN[:3] + [WAIT] + PLAIN[3:6] + [("forget", 0)]
        self.assert_fault((7, (0, 0), 0, 0), AHEAD, BACK, plan)

    def test_a_wait_behind_the_forget_does_not_serve(self):
        plan = PLAIN[:6] + [("forget", 0), WAIT]
        self.assert_fault((6, (0, 0), 0, 0), AHEAD, BACK, plan)

    def test_a_forget_of_a_house_on_no_old_way(self):
        # Nothing comes to house 2 but by its own door.
        net = Net([2, 3, 1], [((0, 1), (1, 0)), ((1, 2), (2, 0))])
        old = [[("xxxx", 0, 1)], [("xxxx", None, 1)], []]
        self.assert_fault(None, old, EMPTY, [("forget", 2)], net)
        self.assert_fault((0, (0, 0), 0, 1), old, EMPTY, [("forget", 1)], net)
        old = [[("xxxx", 0, 1)], [("0101", None, 2), ("xxxx", None, 1)], []]
        self.assert_fault((0, (0, 0), 5, 2), old, EMPTY, [("forget", 2)], net)

    def test_the_least_address(self):
        new = [[("11x1", 0, 1)], [("1101", 0, 2)], []]
        plan = [("teach", 0), ("turn", 0)]
        self.assert_fault((1, (0, 0), 13, 1), EMPTY, new, plan)
        self.assert_fault((2, (0, 0), 13, 2), EMPTY, new, [("teach", 1)] + plan)
        self.assert_fault((1, (0, 0), 13, 2), new, EMPTY, [("teach", 2), ("forget", 2)])
        self.assert_fault((0, (0, 0), 13, 1), new, EMPTY, [("forget", 1)])
        new = [[("111x", 0, 1)], [("1111", 0, 2), ("xxxx", 0, 1)], []]
        self.assert_fault((2, (0, 0), 15, 2), EMPTY, new, [("teach", 1), ("teach", 0), ("turn", 0)])

    def test_the_least_door(self):
        net = Net([4, 1], [((0, 2), (1, 0))])
        new = [[("0110", 3, 2), ("1xxx", 1, 2), ("1111", 0, 2)], []]
        plan = [("teach", 0), ("turn", 0)]
        # The least door goes ahead of the least address.
        self.assert_fault((1, (0, 0), 15, 1), [[], []], new, plan, net)
        self.assert_fault((1, (0, 1), 8, 1), [[], []], [new[0][:2], []], plan, net)
        self.assert_fault((1, (0, 3), 6, 1), [[], []], [new[0][:1], []], plan, net)
        self.assert_fault((0, (0, 0), 15, 1), new, [[], []], [("forget", 1)], net)

    def test_the_least_step(self):
        # The least step goes ahead of the least door.
        self.assert_fault((0, (2, 1), 0, 2), BACK, AHEAD, [("turn", 2), ("turn", 1), ("turn", 0)])
        self.assert_fault((0, (1, 1), 0, 1), BACK, AHEAD, [("forget", 1), ("turn", 0)])
        self.assert_fault((0, (0, 0), 0, 0), BACK, AHEAD, [("turn", 0), ("forget", 1)])

    def test_rings(self):
        ring = [[("xxxx", None, 1)], [("xxxx", None, 0)], []]
        self.assert_fault((1, (0, 0), 0, 1), EMPTY, ring, [("teach", 0), ("turn", 0)])
        self.assert_fault(None, EMPTY, ring, [("teach", 0), ("teach", 1), ("turn", 0)])
        self.assert_fault((0, (0, 0), 0, 1), ring, EMPTY, [("forget", 1)])
        # A letter that goes round with the mark 0 holds the wait up for ever.
        self.assert_fault(None, ring, EMPTY, PLAIN)

    def test_nets_without_outer_doors_have_no_letters(self):
        net = Net([1, 1], [((0, 0), (1, 0))])
        for plan in [[("turn", 0)], [("forget", 0)], [("forget", 1), ("turn", 1), ("turn", 0)]]:
            self.assert_fault(None, [[], []], [[], []], plan, net)

    def test_drawn_plans(self):
        source = random.Random(43)
        told_of = {}
        for count in range(700):
            net = drawn_net(source, Net)
            rows = source.choice([1, 2, 4])
            old, new = drawn_books(source, net, rows), drawn_books(source, net, rows)
            plan = drawn_plan(source, net.many, source.choice([0.05, 0.1, 0.2, 1]))
            self.assertTrue(is_plan_of(plan, net.many))
            before = copy.deepcopy((old, new, plan))
            told = fault(net, old, new, plan)
            self.assertEqual(told, fault_of(net, old, new, plan))
            self.assertEqual((old, new, plan), before)
            kind = told and plan[told[0]][0]
            told_of[kind] = told_of.get(kind, 0) + 1
        self.assertEqual(set(told_of), {None, "turn", "forget"})
        self.assertTrue(min(told_of.values()) > 80, told_of)

    def test_drawn_plans_have_a_fault_just_where_some_run_loses_a_letter(self):
        source = random.Random(44)
        told_of = {True: 0, False: 0}
        for count in range(150):
            net = drawn_net(source, Net, 4)
            old, new = drawn_books(source, net, 3), drawn_books(source, net, 3)
            plan = drawn_plan(source, net.many, source.choice([0.05, 0.1, 0.2, 1]))
            losses = losses_of(net, old, new, plan)
            self.assertEqual({told[1:3] for told in faults_of(net, old, new, plan)}, losses)
            told = fault(net, old, new, plan)
            self.assertEqual(told is None, losses == set())
            if told is not None:
                self.assertIn(told[1:3], losses)
            told_of[told is None] += 1
        self.assertTrue(min(told_of.values()) > 30, told_of)


class Refused(RefusedAsFault, unittest.TestCase):
    def ask(self, net, old, new, plan):
        fault(net, old, new, plan)


class AskedAgain(unittest.TestCase):
    def test_books_and_plans_that_are_changed_between(self):
        old, new, plan = copy.deepcopy(BACK), copy.deepcopy(AHEAD), list(PLAIN)
        self.assertIsNone(fault(NET, old, new, plan))
        plan.remove(("teach", 1))
        self.assertEqual(fault(NET, old, new, plan), (2, (0, 0), 0, 1))
        new[0][0] = ("xxxx", 0, 0)
        self.assertEqual(fault(NET, old, new, plan), (3, (1, 1), 0, 1))
        new[1].clear()
        plan.insert(0, ("teach", 1))
        plan.remove(WAIT)
        self.assertEqual(fault(NET, old, new, plan), (6, (0, 0), 0, 0))
        old[0].clear()
        self.assertEqual(fault(NET, old, new, plan), (6, (0, 0), 0, 0))


if __name__ == "__main__":
    unittest.main()
