import copy
import random
import unittest

from model import drawn_books, drawn_net
from nohalfway.breaks import breaking
from nohalfway.nets import Net
from nohalfway.plans import fault, plain_plan
from nohalfway.runs import Run
from refused import RefusedAsFault
from run_model import RunOf, drawn_plan, fault_of

WAIT, STEP = ("wait",), ("step",)
# Three houses in a row; outer doors 0.0, 1.1 and 2.1.
NET = Net([2, 3, 2], [((0, 1), (1, 0)), ((1, 2), (2, 0))])
# From 0.0 all goes by all three houses, from 1.1 by house 1 to house 2, from 2.1 out there again.
AHEAD = [[("xxxx", 0, 1)], [("xxxx", None, 2)], [("xxxx", None, 1)]]
# What comes in goes out by the same door.
BACK = [[("xxxx", None, 0)], [("xxxx", None, 1)], [("xxxx", None, 1)]]
# From 0.0 all goes round between houses 0 and 1.
RING = [[("xxxx", None, 1)], [("xxxx", None, 0)], []]
EMPTY = [[], [], []]
PLAIN = plain_plan(NET)
TAUGHT, TURNED = PLAIN[:3], PLAIN[3:6]


class Told(unittest.TestCase):
    def assert_breaks(self, net, old, new, plan):
        """The moves may be, one after the other, and by the last one a letter is lost."""
        before = copy.deepcopy((old, new, plan))
        moves = breaking(net, old, new, plan)
        self.assertEqual((old, new, plan), before)
        self.assertIs(type(moves), list)
        run, model = Run(net, old, new, plan), RunOf(net, old, new, plan)
        told = None
        for move in moves:
            self.assertTrue(model.may_be(move), (plan, moves, move))
            told = run.move(move)
            self.assertEqual(told, model.move(move))
        self.assertEqual(told[0], "lost")
        return moves

    def assert_none(self, net, old, new, plan):
        self.assertIsNone(fault_of(net, old, new, plan))
        self.assertIsNone(breaking(net, old, new, plan))


class Faultless(Told):
    def test_plans_that_do_little(self):
        for plan in [[], [WAIT], [WAIT] * 40, TAUGHT, TAUGHT + TURNED, PLAIN]:
            for old, new in [(AHEAD, BACK), (BACK, AHEAD), (RING, AHEAD), (EMPTY, RING)]:
                self.assert_none(NET, old, new, plan)

    def test_the_plain_plan_whatever_the_books(self):
        source = random.Random(71)
        for count in range(40):
            net = drawn_net(source, Net)
            self.assert_none(net, drawn_books(source, net), drawn_books(source, net), plain_plan(net))

    def test_a_net_without_outer_doors(self):
        net = Net([1, 1], [((0, 0), (1, 0))])
        self.assert_none(net, [[], []], [[], []], [("turn", 0), ("forget", 1)])


class Turns(Told):
    def test_a_turn_ahead_of_the_teach(self):
        self.assert_breaks(NET, BACK, AHEAD, [("turn", 0)])
        self.assert_breaks(NET, BACK, AHEAD, [("turn", 0), ("teach", 0), ("teach", 1), ("teach", 2)])
        self.assert_breaks(NET, EMPTY, EMPTY, [("turn", 2)])

    def test_houses_further_on_the_way_are_not_taught(self):
        moves = self.assert_breaks(NET, BACK, AHEAD, [("teach", 0), ("turn", 0), ("teach", 1), ("teach", 2)])
        self.assertEqual(moves.count(("go", 0)), 2)
        moves = self.assert_breaks(NET, BACK, AHEAD, [("teach", 0), ("teach", 1), ("turn", 0), ("teach", 2)])
        self.assertEqual(moves.count(("go", 0)), 3)

    def test_waits_ahead_of_the_turn(self):
        for waits in range(1, 39):
            self.assert_breaks(NET, BACK, AHEAD, [WAIT] * waits + [("turn", 1)])
            self.assert_breaks(NET, BACK, AHEAD, [("teach", 1)] + [WAIT] * waits + [("turn", 1)])
        self.assert_breaks(NET, BACK, AHEAD, [WAIT, ("teach", 0), WAIT, ("turn", 0), WAIT, ("teach", 1), WAIT])

    def test_by_addresses_that_go_there_alone(self):
        new = [[("1101", 0, 1)], [], []]
        moves = self.assert_breaks(NET, EMPTY, new, [("teach", 0), ("turn", 0)])
        self.assertIn(("come", (0, 0), 13), moves)

    def test_a_ring_with_a_house_that_is_not_taught(self):
        self.assert_breaks(NET, EMPTY, RING, [("teach", 0), WAIT, ("turn", 0)])
        self.assert_none(NET, EMPTY, RING, [("teach", 0), ("teach", 1), WAIT, ("turn", 0)])


class Forgets(Told):
    def test_without_any_turn(self):
        for house in range(3):
            self.assert_breaks(NET, AHEAD, BACK, [("forget", house)])
            self.assert_breaks(NET, AHEAD, BACK, [WAIT, ("forget", house), WAIT])
            self.assert_breaks(NET, AHEAD, BACK, TAUGHT + [WAIT] * 20 + [("forget", house)])

    def test_behind_the_turns_without_a_wait(self):
        for house in range(3):
            self.assert_breaks(NET, AHEAD, BACK, TAUGHT + TURNED + [("forget", house), WAIT])
            self.assert_breaks(NET, AHEAD, BACK, TAUGHT + TURNED[::-1] + [("forget", house)])

    def test_waits_ahead_of_the_turn(self):
        for waits in range(1, 30):
            self.assert_breaks(NET, AHEAD, BACK, [WAIT] * waits + TAUGHT + TURNED + [("forget", 2)])
        self.assert_breaks(NET, AHEAD, BACK, [WAIT] + TAUGHT + [WAIT] + TURNED + [("forget", 1)])

    def test_a_wait_that_is_not_behind_the_turn_of_this_door(self):
        plan = TAUGHT + [("turn", 0), ("turn", 1), WAIT, ("turn", 2), ("forget", 2)]
        moves = self.assert_breaks(NET, AHEAD, BACK, plan)
        self.assertIn(("come", (2, 1), 0), moves)
        plan = TAUGHT + [("turn", 0), WAIT, ("turn", 1), ("turn", 2), ("forget", 2)]
        moves = self.assert_breaks(NET, AHEAD, BACK, plan)
        self.assertIn(("come", (1, 1), 0), moves)
        self.assert_breaks(NET, AHEAD, BACK, TAUGHT + [("turn", 0), WAIT, WAIT, ("forget", 2)])

    def test_houses_ahead_on_the_way_that_may_be_forgotten(self):
        plan = TAUGHT + [("turn", 0), WAIT, ("forget", 0), WAIT, ("forget", 1), ("turn", 1)]
        self.assert_breaks(NET, AHEAD, BACK, plan)
        plan = [("forget", 0), ("forget", 1), ("forget", 2)]
        self.assert_breaks(NET, AHEAD, BACK, plan)

    def test_a_ring_that_holds_waits_up(self):
        self.assert_breaks(NET, RING, EMPTY, TAUGHT + [WAIT, ("turn", 0), ("forget", 1), WAIT])
        self.assert_breaks(NET, RING, EMPTY, [WAIT, WAIT, ("forget", 0)])

    def test_by_addresses_that_go_there_alone(self):
        old = [[("11x1", 0, 1)], [("1111", 0, 2)], []]
        moves = self.assert_breaks(NET, old, EMPTY, TAUGHT + [("turn", 1), ("turn", 2), WAIT, ("forget", 2)])
        self.assertIn(("come", (0, 0), 15), moves)


class Drawn(Told):
    def test_drawn_plans(self):
        source = random.Random(72)
        words, places, waited = {}, set(), 0
        for count in range(800):
            net = drawn_net(source, Net)
            rows = source.choice([1, 2, 4])
            old, new = drawn_books(source, net, rows), drawn_books(source, net, rows)
            plan = drawn_plan(source, net.many, source.choice([0.05, 0.1, 0.2, 1]), 8)
            right = fault_of(net, old, new, plan)
            if right is None:
                self.assert_none(net, old, new, plan)
            else:
                self.assert_breaks(net, old, new, plan)
                places.add(right[0])
                waited += WAIT in plan[:right[0]]
            word = right and plan[right[0]][0]
            words[word] = words.get(word, 0) + 1
        self.assertEqual(set(words), {None, "turn", "forget"})
        self.assertTrue(min(words.values()) > 80 and waited > 80, (words, waited))
        self.assertTrue(places >= set(range(15)), places)

    def test_a_fault_at_any_step(self):
        for place in range(40):
            ahead = ([("teach", 2)] + [WAIT] * place)[:place]
            for step in [("turn", 1), ("forget", 1)]:
                plan = ahead + [step] + [WAIT] * (39 - place)
                self.assertEqual(fault(NET, AHEAD, AHEAD, plan)[0], place)
                self.assert_breaks(NET, AHEAD, AHEAD, plan)


class Refused(RefusedAsFault, unittest.TestCase):
    def ask(self, net, old, new, plan):
        breaking(net, old, new, plan)


class Own(unittest.TestCase):
    def test_each_list_is_the_askers_own(self):
        plan = TAUGHT + TURNED + [("forget", 2)]
        early, late = breaking(NET, AHEAD, BACK, plan), breaking(NET, AHEAD, BACK, plan)
        self.assertIsNot(early, late)
        kept = list(late)
        early.clear()
        self.assertEqual(late, kept)
        late.append(None)
        self.assertEqual(breaking(NET, AHEAD, BACK, plan), kept)

    def test_asked_again_of_what_was_changed_between(self):
        old, plan = copy.deepcopy(AHEAD), TAUGHT + TURNED + [("forget", 2)]
        self.assertIsNotNone(breaking(NET, old, BACK, plan))
        plan.insert(6, WAIT)
        self.assertIsNone(breaking(NET, old, BACK, plan))
        plan.remove(WAIT)
        old[1].clear()
        self.assertIn(("come", (2, 1), 0), breaking(NET, old, BACK, plan))


if __name__ == "__main__":
    unittest.main()
