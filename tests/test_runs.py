import copy
import itertools
import random
import unittest

from model import ANYTHING, Stubborn, broken_of, drawn_books, drawn_net, drawn_saying, is_so_by, suits, way_of
from nohalfway.errors import NoMove
from nohalfway.nets import Net
from nohalfway.plans import fault, plain_plan
from nohalfway.runs import Run
from refused import RefusedAsFault
from run_model import RunOf, drawn_move, drawn_plan

WAIT, STEP = ("wait",), ("step",)
# Three houses in a row; outer doors 0.0, 1.1 and 2.1.
NET = Net([2, 3, 2], [((0, 1), (1, 0)), ((1, 2), (2, 0))])
# From 0.0 all goes by all three houses and out by 2.1.
AHEAD = [[("xxxx", 0, 1)], [("xxxx", None, 2)], [("xxxx", None, 1)]]
# From 0.0 all goes out by 1.1 but what begins with 11, which house 1 drops.
SIDE = [[("xxxx", None, 1)], [("11xx", None, None), ("xxxx", None, 1)], [("xxxx", None, 1)]]
# From 0.0 all goes round between houses 0 and 1.
RING = [[("xxxx", None, 1)], [("xxxx", None, 0)], []]
EMPTY = [[], [], []]
PLAIN = plain_plan(NET)
START = (0, 0)


def seen(run):
    """All that a run tells of itself, as a copy."""
    return copy.deepcopy((run.place(), run.under(), run.journal(), run.may()))


class Told(unittest.TestCase):
    def assert_moves(self, run, *moves_and_told):
        for move, right in moves_and_told:
            told = run.move(move)
            self.assertEqual((move, told), (move, right))
            self.assertIs(type(told), type(right))

    def assert_refused(self, run, move):
        before = seen(run)
        with self.subTest(repr(move)[:200]):
            with self.assertRaises(NoMove) as caught:
                run.move(move)
            self.assertIs(type(caught.exception), NoMove)
            self.assertEqual(seen(run), before)


class ComeAndGo(Told):
    def test_at_first_nothing_is_there(self):
        run = Run(NET, AHEAD, SIDE, PLAIN)
        self.assertEqual(seen(run), (0, [], [], [STEP]))
        self.assertEqual(seen(Run(NET, AHEAD, SIDE, [])), (0, [], [], []))
        self.assertEqual(seen(Run(NET, AHEAD, SIDE, [WAIT])), (0, [], [], [STEP]))

    def test_a_letter_from_its_coming_to_its_end(self):
        run = Run(NET, AHEAD, SIDE, [])
        self.assert_moves(run, (("come", START, 5), 0))
        self.assertEqual(seen(run), (0, [(0, 0, 5, 0, 0)], [], [("go", 0)]))
        self.assert_moves(run, (("go", 0), ("at", 1, 0)))
        self.assertEqual(seen(run), (0, [(0, 0, 5, 1, 0)], [], [("go", 0)]))
        self.assert_moves(run, (("go", 0), ("at", 2, 0)), (("go", 0), ("out", 2, 1)))
        self.assertEqual(seen(run), (0, [], [(0, 0, START, 5, [(0, 0), (1, 0), (2, 0)], ("out", 2, 1))], []))

    def test_dropped_by_a_row_and_by_no_row(self):
        run = Run(NET, SIDE, AHEAD, [])
        self.assert_moves(run, (("come", START, 12), 0), (("go", 0), ("at", 1, 0)), (("go", 0), ("drop", 1)))
        self.assertEqual(run.journal(), [(0, 0, START, 12, [(0, 0), (1, 0)], ("drop", 1))])
        run = Run(NET, EMPTY, AHEAD, [])
        self.assert_moves(run, (("come", (2, 1), 0), 0), (("go", 0), ("drop", 2)))
        self.assertEqual(run.journal(), [(0, 0, (2, 1), 0, [(2, 1)], ("drop", 2))])

    def test_letters_are_numbered_as_they_come(self):
        run = Run(NET, AHEAD, SIDE, [])
        doors = [(0, 0), (2, 1), (1, 1), (2, 1), (0, 0)]
        for number, door in enumerate(doors):
            self.assert_moves(run, (("come", door, number), number))
        self.assertEqual(run.under(), [(number, 0, number, *door) for number, door in enumerate(doors)])
        self.assertEqual(run.may(), [("go", number) for number in range(5)])
        self.assert_moves(run, (("go", 3), ("out", 2, 1)), (("go", 1), ("out", 2, 1)), (("come", START, 9), 5))
        self.assertEqual([letter[0] for letter in run.under()], [0, 2, 4, 5])
        self.assertEqual(run.may(), [("go", 0), ("go", 2), ("go", 4), ("go", 5)])

    def test_the_journal_is_in_the_order_of_the_ends(self):
        run = Run(NET, SIDE, AHEAD, [])
        for number, address in enumerate([1, 12, 3]):
            self.assert_moves(run, (("come", START, address), number))
        for number in [2, 0, 1, 1, 2, 0]:
            run.move(("go", number))
        self.assertEqual(
            [(letter[0], letter[5]) for letter in run.journal()],
            [(1, ("drop", 1)), (2, ("out", 1, 1)), (0, ("out", 1, 1))],
        )

    def test_two_letters_alike(self):
        run = Run(NET, AHEAD, SIDE, [])
        self.assert_moves(run, (("come", START, 7), 0), (("come", START, 7), 1), (("go", 1), ("at", 1, 0)))
        self.assertEqual(run.under(), [(0, 0, 7, 0, 0), (1, 0, 7, 1, 0)])

    def test_a_house_twice_and_the_door_by_which_it_came(self):
        net = Net([3], [((0, 1), (0, 2))])
        run = Run(net, [[("xxxx", 0, 1), ("xxxx", 2, 0)]], [[]], [])
        self.assert_moves(run, (("come", START, 0), 0), (("go", 0), ("at", 0, 2)), (("go", 0), ("out", 0, 0)))
        self.assertEqual(run.journal(), [(0, 0, START, 0, [(0, 0), (0, 2)], ("out", 0, 0))])

    def test_a_letter_that_goes_round_is_never_at_an_end(self):
        run = Run(NET, RING, AHEAD, [])
        run.move(("come", START, 5))
        for time in range(60):
            self.assert_moves(run, (("go", 0), ("at", 1, 0)), (("go", 0), ("at", 0, 1)))
        self.assertEqual(seen(run), (0, [(0, 0, 5, 0, 1)], [], [("go", 0)]))

    def test_every_outer_door_and_every_address(self):
        run = Run(NET, AHEAD, SIDE, [])
        pairs = list(itertools.product(NET.outer(), range(16)))
        for number, (door, address) in enumerate(pairs):
            self.assert_moves(run, (("come", door, address), number))
        self.assertEqual(
            run.under(), [(number, 0, address, *door) for number, (door, address) in enumerate(pairs)]
        )


class Steps(Told):
    def test_each_step_is_told(self):
        run = Run(NET, AHEAD, SIDE, PLAIN)
        for place, step in enumerate(PLAIN):
            self.assertEqual((run.place(), run.may()), (place, [STEP]))
            self.assert_moves(run, (STEP, step))
        self.assertEqual(seen(run), (len(PLAIN), [], [], []))
        self.assert_refused(run, STEP)

    def test_a_step_behind_the_last_one(self):
        self.assert_refused(Run(NET, AHEAD, SIDE, []), STEP)
        run = Run(NET, AHEAD, SIDE, [WAIT])
        run.move(STEP)
        self.assert_refused(run, STEP)

    def test_marks_by_whether_the_doors_house_was_turned(self):
        run = Run(NET, AHEAD, SIDE, [("teach", 0), ("teach", 1), ("teach", 2), ("turn", 1), ("turn", 0)])
        for number in range(3):
            run.move(STEP)
            run.move(("come", START, 0))
        run.move(STEP)
        for door in NET.outer():
            run.move(("come", door, 1))
        run.move(STEP)
        for door in NET.outer():
            run.move(("come", door, 2))
        self.assertEqual([letter[1:] for letter in run.under()], [
            (0, 0, 0, 0), (0, 0, 0, 0), (0, 0, 0, 0), (0, 1, 0, 0), (1, 1, 1, 1), (0, 1, 2, 1),
            (1, 2, 0, 0), (1, 2, 1, 1), (0, 2, 2, 1),
        ])

    def test_a_letter_keeps_its_mark_and_goes_by_its_book(self):
        run = Run(NET, AHEAD, SIDE, PLAIN)
        run.move(("come", START, 0))
        for step in PLAIN[:6]:
            self.assert_moves(run, (STEP, step))
        run.move(("come", START, 0))
        self.assertEqual(run.under(), [(0, 0, 0, 0, 0), (1, 1, 0, 0, 0)])
        self.assert_moves(
            run, (("go", 0), ("at", 1, 0)), (("go", 1), ("at", 1, 0)), (("go", 1), ("out", 1, 1)),
            (("go", 0), ("at", 2, 0)), (("go", 0), ("out", 2, 1)),
        )
        self.assertEqual(run.journal(), [
            (1, 1, START, 0, [(0, 0), (1, 0)], ("out", 1, 1)),
            (0, 0, START, 0, [(0, 0), (1, 0), (2, 0)], ("out", 2, 1)),
        ])

    def test_the_mark_is_that_of_the_coming_though_houses_on_the_way_are_turned(self):
        plan = [("teach", 0), ("teach", 1), ("turn", 1), ("turn", 0)]
        run = Run(NET, AHEAD, SIDE, plan)
        for step in plan[:3]:
            run.move(STEP)
        run.move(("come", START, 0))
        run.move(STEP)
        self.assert_moves(run, (("go", 0), ("at", 1, 0)), (("go", 0), ("at", 2, 0)), (("go", 0), ("out", 2, 1)))

    def test_a_wait_only_while_no_letter_with_the_mark_0_is_under_way(self):
        run = Run(NET, SIDE, AHEAD, PLAIN)
        run.move(("come", START, 0))
        for step in PLAIN[:6]:
            self.assert_moves(run, (STEP, step))
        self.assertEqual(run.may(), [("go", 0)])
        self.assert_refused(run, STEP)
        run.move(("come", START, 0))
        self.assert_refused(run, STEP)
        self.assertEqual(run.may(), [("go", 0), ("go", 1)])
        self.assert_moves(run, (("go", 0), ("at", 1, 0)))
        self.assert_refused(run, STEP)
        self.assert_moves(run, (("go", 0), ("out", 1, 1)))
        # The letter with the mark 1 is still under way.
        self.assertEqual((run.under(), run.may()), ([(1, 1, 0, 0, 0)], [("go", 1), STEP]))
        self.assert_moves(run, (STEP, WAIT), (STEP, ("forget", 0)))
        self.assertEqual(run.place(), 8)

    def test_a_wait_that_is_held_up_by_any_letter_with_the_mark_0(self):
        plan = [("teach", 0), ("turn", 0), WAIT]
        for marks in itertools.product([0, 1], repeat=3):
            run = Run(NET, AHEAD, SIDE, plan)
            run.move(STEP)
            run.move(STEP)
            for mark in marks:
                run.move(("come", START if mark else (1, 1), 0))
            self.assertEqual([letter[1] for letter in run.under()], list(marks))
            self.assertEqual(STEP in run.may(), 0 not in marks)
            if 0 in marks:
                self.assert_refused(run, STEP)
            else:
                self.assert_moves(run, (STEP, WAIT))

    def test_other_steps_are_not_held_up(self):
        plan = [step for step in PLAIN if step != WAIT]
        run = Run(NET, AHEAD, SIDE, plan)
        run.move(("come", START, 0))
        for step in plan:
            self.assertEqual(run.may(), [("go", 0), STEP])
            self.assert_moves(run, (STEP, step))

    def test_a_ring_holds_a_wait_up(self):
        run = Run(NET, RING, AHEAD, [WAIT])
        run.move(("come", START, 0))
        for time in range(20):
            run.move(("go", 0))
            self.assert_refused(run, STEP)

    def test_a_letter_may_come_between_two_waits(self):
        run = Run(NET, AHEAD, SIDE, [WAIT, WAIT])
        self.assert_moves(run, (STEP, WAIT), (("come", (2, 1), 3), 0))
        self.assert_refused(run, STEP)
        self.assert_moves(run, (("go", 0), ("out", 2, 1)), (STEP, WAIT))


class Lost(Told):
    def test_where_the_new_book_is_not_taught(self):
        run = Run(NET, AHEAD, SIDE, [("turn", 0), ("teach", 0), ("teach", 1)])
        self.assert_moves(run, (STEP, ("turn", 0)), (("come", START, 3), 0), (("go", 0), ("lost", 0)))
        self.assertEqual(run.journal(), [(0, 1, START, 3, [START], ("lost", 0))])
        self.assertEqual(run.under(), [])
        self.assert_refused(run, ("go", 0))

    def test_where_a_house_on_the_way_is_not_taught(self):
        plan = [("teach", 0), ("turn", 0), ("teach", 1)]
        run = Run(NET, AHEAD, SIDE, plan)
        self.assert_moves(
            run, (STEP, ("teach", 0)), (STEP, ("turn", 0)), (("come", START, 3), 0), (("come", START, 4), 1),
            (("go", 0), ("at", 1, 0)), (("go", 0), ("lost", 1)), (("go", 1), ("at", 1, 0)), (STEP, ("teach", 1)),
            (("go", 1), ("out", 1, 1)),
        )
        self.assertEqual(run.journal(), [
            (0, 1, START, 3, [(0, 0), (1, 0)], ("lost", 1)), (1, 1, START, 4, [(0, 0), (1, 0)], ("out", 1, 1)),
        ])

    def test_where_the_old_book_is_forgotten(self):
        run = Run(NET, AHEAD, SIDE, [("teach", 2), ("forget", 2)])
        self.assert_moves(
            run, (("come", START, 3), 0), (("go", 0), ("at", 1, 0)), (("go", 0), ("at", 2, 0)), (STEP, ("teach", 2)),
            (STEP, ("forget", 2)), (("go", 0), ("lost", 2)),
        )
        self.assertEqual(run.journal(), [(0, 0, START, 3, [(0, 0), (1, 0), (2, 0)], ("lost", 2))])

    def test_a_letter_that_passed_by_ahead_of_the_forget_is_not_lost(self):
        run = Run(NET, AHEAD, SIDE, [("forget", 0)])
        self.assert_moves(
            run, (("come", START, 3), 0), (("go", 0), ("at", 1, 0)), (STEP, ("forget", 0)), (("go", 0), ("at", 2, 0)),
            (("go", 0), ("out", 2, 1)), (("come", START, 3), 1), (("go", 1), ("lost", 0)),
        )

    def test_a_house_that_was_taught_keeps_its_old_book(self):
        plan = [("teach", 0), ("teach", 1), ("teach", 2)]
        run = Run(NET, AHEAD, SIDE, plan)
        for step in plan:
            run.move(STEP)
        self.assert_moves(run, (("come", START, 3), 0), (("go", 0), ("at", 1, 0)), (("go", 0), ("at", 2, 0)))

    def test_a_house_that_forgot_its_old_book_knows_its_new_one(self):
        run = Run(NET, AHEAD, SIDE, PLAIN)
        for step in PLAIN:
            run.move(STEP)
        self.assert_moves(run, (("come", START, 3), 0), (("go", 0), ("at", 1, 0)), (("go", 0), ("out", 1, 1)))

    def test_a_new_book_may_be_taught_behind_the_forget(self):
        plan = [("forget", 0), ("teach", 0), ("turn", 0)]
        run = Run(NET, EMPTY, SIDE, plan)
        for step in plan[:2]:
            run.move(STEP)
        # It is taught, but its letters still get the mark 0.
        self.assert_moves(run, (("come", START, 3), 0), (("go", 0), ("lost", 0)), (STEP, ("turn", 0)))
        self.assert_moves(run, (("come", START, 3), 1), (("go", 1), ("at", 1, 0)), (("go", 1), ("lost", 1)))

    def test_houses_whose_books_are_alike(self):
        run = Run(NET, AHEAD, copy.deepcopy(AHEAD), [("forget", 0), ("turn", 1)])
        self.assert_moves(run, (STEP, ("forget", 0)), (("come", START, 3), 0), (("go", 0), ("lost", 0)))
        self.assert_moves(run, (STEP, ("turn", 1)), (("come", (1, 1), 3), 1), (("go", 1), ("lost", 1)))

    def test_a_letter_that_went_round_and_is_lost(self):
        run = Run(NET, RING, AHEAD, [("forget", 1)])
        run.move(("come", START, 3))
        for time in range(4):
            run.move(("go", 0))
        run.move(STEP)
        self.assert_moves(run, (("go", 0), ("at", 1, 0)), (("go", 0), ("lost", 1)))
        way = [(0, 0), (1, 0), (0, 1), (1, 0), (0, 1), (1, 0)]
        self.assertEqual(run.journal(), [(0, 0, START, 3, way, ("lost", 1))])

    def test_a_lost_letter_holds_no_wait_up(self):
        run = Run(NET, AHEAD, SIDE, [("forget", 0), WAIT])
        self.assert_moves(run, (("come", START, 3), 0), (STEP, ("forget", 0)))
        self.assert_refused(run, STEP)
        self.assert_moves(run, (("go", 0), ("lost", 0)), (STEP, WAIT))


NO_MOVE = ANYTHING + [
    [], "step", "come", ["step"], ["go", 0], ["come", START, 0], ("step", 0), ("step", None), ("steps",), ("STEP",),
    ("",), (0,), ("go",), ("go", 0, 0), ("go", "0"), ("go", None), ("go", (0,)), ("go", [0]), ("go", 0.0), ("go", True),
    ("go", False), ("go", -1), ("go", 2), ("go", 3), ("go", 10 ** 400), ("go", Stubborn()), (Stubborn(), 0),
    ("goes", 0), ("come",), ("come", START), ("come", 0), ("come", START, 0, 0), ("come", 0, 0), ("come", 0, 0, 0),
    ("comes", START, 0), ("come", START, 16), ("come", START, -1), ("come", START, True), ("come", START, False),
    ("come", START, None), ("come", START, "0"), ("come", START, 0.0), ("come", START, "xxxx"), ("come", START, [0]),
    ("come", START, 10 ** 400), ("come", (0, 1), 0), ("come", (1, 0), 0), ("come", (1, 2), 0), ("come", (2, 0), 0),
    ("come", (0, 2), 0), ("come", (3, 0), 0), ("come", (-1, 0), 0), ("come", (0, -1), 0), ("come", (False, 0), 0),
    ("come", (0, False), 0), ("come", (1, True), 0), ("come", [0, 0], 0), ("come", "0.0", 0), ("come", None, 0),
    ("come", (0,), 0), ("come", (0, 0, 0), 0), ("come", (0.0, 0), 0), ("come", 0, START), ("come", Stubborn(), 0),
    ("come", START, Stubborn()), ("come", (Stubborn(), 0), 0), ("come", (0, Stubborn()), 0), ("step", Stubborn()),
    ("go", 0, Stubborn()), (("step",),), [("step",)], ("teach", 0), ("turn", 0), ("wait",), ("forget", 0), ("at", 0, 0),
    ("out", 2, 1), {"step": 0}, {"step"}, ("step", "step"), (b"step",),
]


class NoMoves(Told):
    def test_of_anything(self):
        run = Run(NET, AHEAD, SIDE, PLAIN)
        # Letter 0 is under way; letter 1 is at its end; letter 2 has not come.
        run.move(("come", START, 0))
        run.move(("come", (2, 1), 0))
        run.move(("go", 1))
        for move in NO_MOVE + [("go", 1)]:
            self.assert_refused(run, move)
        self.assert_moves(run, (("come", START, 9), 2), (STEP, PLAIN[0]), (("go", 0), ("at", 1, 0)))

    def test_at_the_very_beginning_and_behind_all_steps(self):
        run = Run(NET, AHEAD, SIDE, [])
        for move in NO_MOVE + [("go", 0), STEP]:
            self.assert_refused(run, move)
        self.assert_moves(run, (("come", START, 9), 0))

    def test_a_letter_at_its_end(self):
        run = Run(NET, SIDE, AHEAD, [("forget", 2)])
        run.move(STEP)
        for door, address in [(START, 0), (START, 12), ((2, 1), 0)]:
            number = run.move(("come", door, address))
            while run.move(("go", number))[0] == "at":
                pass
            self.assert_refused(run, ("go", number))
        self.assertEqual([letter[5][0] for letter in run.journal()], ["out", "drop", "lost"])

    def test_refused_moves_take_no_number(self):
        run = Run(NET, AHEAD, SIDE, [])
        for number in range(3):
            for move in [("come", (0, 1), 0), ("come", START, 16), ("come", START, True)]:
                self.assert_refused(run, move)
            self.assert_moves(run, (("come", START, 0), number))

    def test_truths_are_no_letters_numbers(self):
        run = Run(NET, AHEAD, SIDE, [])
        run.move(("come", START, 0))
        run.move(("come", START, 0))
        self.assertIn(("go", True), run.may())
        self.assert_refused(run, ("go", True))
        self.assert_refused(run, ("go", False))
        self.assert_moves(run, (("go", 1), ("at", 1, 0)), (("go", 0), ("at", 1, 0)))

    def test_what_may_tells_may_be(self):
        run = Run(NET, RING, AHEAD, PLAIN)
        for number in range(3):
            run.move(("come", START, number))
        source = random.Random(51)
        for time in range(100):
            run.move(source.choice(run.may()))


class RunRefused(RefusedAsFault, unittest.TestCase):
    def ask(self, net, old, new, plan):
        Run(net, old, new, plan)

    def test_a_plan_with_a_fault_is_not_refused(self):
        plan = [("turn", 0), ("forget", 0)]
        self.assertIsNotNone(fault(NET, AHEAD, SIDE, plan))
        self.assertEqual(Run(NET, AHEAD, SIDE, plan).may(), [STEP])

    def test_forty_steps_are_not_refused(self):
        run = Run(NET, AHEAD, SIDE, PLAIN + [WAIT] * 30)
        for place in range(40):
            run.move(STEP)
        self.assertEqual((run.place(), run.may()), (40, []))


class Own(unittest.TestCase):
    def test_each_list_told_is_the_askers_own(self):
        run = Run(NET, SIDE, AHEAD, PLAIN)
        for number in range(3):
            run.move(("come", START, 0))
        for number in [0, 0, 2]:
            run.move(("go", number))
        before = seen(run)
        for ask in [run.under, run.journal, run.may]:
            early, late = ask(), ask()
            self.assertIsNot(early, late)
            early.clear()
            late.append(None)
            self.assertEqual(seen(run), before)
        run.journal()[0][4].append((9, 9))
        self.assertEqual(seen(run), before)
        self.assertIsNot(run.journal()[0][4], run.journal()[0][4])

    def test_nothing_done_later_changes_a_list_told(self):
        run = Run(NET, RING, AHEAD, [("forget", 0)])
        run.move(("come", START, 0))
        run.move(("come", (2, 1), 0))
        run.move(("go", 1))
        told = [run.under(), run.journal(), run.may()]
        kept = copy.deepcopy(told)
        for move in [("go", 0), ("go", 0), ("go", 0), STEP, ("come", START, 1), ("go", 2), ("go", 0), ("go", 0)]:
            run.move(move)
            self.assertEqual(told, kept)
        self.assertEqual([letter[0] for letter in run.journal()], [1, 2, 0])

    def test_books_plan_and_net_handed_in_may_be_changed(self):
        counts, wires = [2, 3, 2], NET.wires()
        net, old, new, plan = Net(counts, wires), copy.deepcopy(AHEAD), copy.deepcopy(SIDE), list(PLAIN)
        run = Run(net, old, new, plan)
        other = Run(NET, AHEAD, SIDE, PLAIN)
        counts.clear()
        wires.clear()
        net.__init__([1, 1], [((0, 0), (1, 0))])
        old[0].clear()
        old[1][0] = ("xxxx", None, 0)
        old[2].insert(0, ("xxxx", None, None))
        new.clear()
        plan[0] = WAIT
        plan.reverse()
        plan.append(None)
        source = random.Random(52)
        for time in range(200):
            moves = other.may()
            if time < 60:
                moves.append(("come", source.choice(NET.outer()), source.randrange(16)))
            if moves:
                move = source.choice(moves)
                self.assertEqual(run.move(move), other.move(move))
                self.assertEqual(seen(run), seen(other))
        self.assertEqual((run.place(), run.under()), (len(PLAIN), []))
        self.assertEqual({letter[1] for letter in run.journal()}, {0, 1})

    def test_new_books_changed_behind(self):
        new = copy.deepcopy(SIDE)
        run = Run(NET, AHEAD, new, PLAIN)
        new[0][0] = ("xxxx", None, 0)
        new[1].clear()
        for step in PLAIN:
            run.move(STEP)
        run.move(("come", START, 0))
        self.assertEqual([run.move(("go", 0)), run.move(("go", 0))], [("at", 1, 0), ("out", 1, 1)])

    def test_a_net_of_which_a_value_is_set_behind(self):
        net = Net([2, 3, 2], NET.wires())
        run = Run(net, AHEAD, SIDE, PLAIN)
        net.many = 1
        self.assertEqual(run.move(("come", (2, 1), 0)), 0)
        self.assertEqual(run.move(("go", 0)), ("out", 2, 1))

    def test_nothing_that_is_handed_in_is_changed(self):
        old, new, plan = copy.deepcopy(AHEAD), copy.deepcopy(SIDE), list(PLAIN)
        run = Run(NET, old, new, plan)
        for move in [("come", START, 0), ("go", 0), ("go", 0), ("go", 0)] + [STEP] * 10:
            run.move(move)
        self.assertEqual((old, new, plan), (AHEAD, SIDE, PLAIN))
        self.assertEqual(NET.wires(), [((0, 1), (1, 0)), ((1, 2), (2, 0))])

    def test_two_runs_beside_each_other(self):
        one, other = Run(NET, AHEAD, SIDE, PLAIN), Run(NET, AHEAD, SIDE, PLAIN)
        one.move(("come", START, 0))
        one.move(STEP)
        one.move(("go", 0))
        self.assertEqual(seen(other), (0, [], [], [STEP]))
        self.assertEqual(other.move(("come", (2, 1), 4)), 0)
        other.move(("go", 0))
        self.assertEqual(seen(one), (1, [(0, 0, 0, 1, 0)], [], [("go", 0), STEP]))
        self.assertEqual(seen(other), (0, [], [(0, 0, (2, 1), 4, [(2, 1)], ("out", 2, 1))], [STEP]))
        # A run of the other books of the same lists does not touch the first ones either.
        third = Run(NET, SIDE, AHEAD, PLAIN[:1])
        third.move(STEP)
        self.assertEqual(seen(other)[0], 0)
        self.assertEqual(one.move(STEP), ("teach", 1))


def drawn_run(source, most_houses=6):
    net = drawn_net(source, Net, most_houses)
    rows = source.choice([1, 2, 4])
    old, new = drawn_books(source, net, rows), drawn_books(source, net, rows)
    return net, old, new, drawn_plan(source, net.many, source.choice([0.02, 0.1, 0.2, 1]))


class AgainstTheModel(unittest.TestCase):
    def test_drawn_runs(self):
        source = random.Random(53)
        counted = {}
        for count in range(250):
            asked = drawn_run(source)
            before = copy.deepcopy(asked[1:])
            run, model = Run(*asked), RunOf(*asked)
            for time in range(source.choice([20, 60])):
                move = drawn_move(source, asked[0], len(model.letters))
                if model.may_be(move):
                    told = run.move(move)
                    self.assertEqual(told, model.move(move))
                    word = told[0] if move[0] != "come" else "come"
                else:
                    word = "refused"
                    self.assertRaises(NoMove, run.move, move)
                counted[word] = counted.get(word, 0) + 1
                self.assertEqual(seen(run), (model.done, model.under(), model.journal(), model.may()))
            self.assertEqual(asked[1:], before)
        self.assertEqual(
            set(counted), set("come at out drop lost teach turn wait forget refused".split()),
        )
        self.assertTrue(min(counted.values()) > 50, counted)


def gone_on(doors, end, length):
    """The first doors of a way, which goes on round its ring where it has one."""
    ring = doors[end[1]:] if end[0] == "ring" else []
    while ring and len(doors) < length:
        doors = doors + ring
    return doors[:length]


class ThePromise(unittest.TestCase):
    """Point 3 (c), of many drawn runs."""

    def letters_of(self, source, net, run):
        """Does moves, and tells of each letter (mark, door, address, doors, end), end None while it is under way."""
        letters = {}
        # Fewer letters come as the run goes on, so that waits come to be done.
        for time in range(120):
            moves = run.may() * 2
            if source.random() < 0.35 and time < 60 or not moves:
                moves = [("come", source.choice(net.outer()), source.randrange(16))]
            move = source.choice(moves)
            told = run.move(move)
            if move[0] == "come":
                letters[told] = [run.under()[-1][1], move[1], move[2], [move[1]], None]
            elif move[0] == "go" and told[0] == "at":
                letters[move[1]][3].append(told[1:])
            elif move[0] == "go":
                letters[move[1]][4] = told
        for number, *more, way, end in run.journal():
            self.assertEqual(letters[number], [*more, way, end])
        return list(letters.values())

    def test_each_letter_goes_by_one_book_alone(self):
        source = random.Random(54)
        counted = {}
        for count in range(250):
            net, old, new, plan = drawn_run(source)
            first = fault(net, old, new, plan)
            sayings = [drawn_saying(source, net) for time in range(6)]
            kept = [saying for saying in sayings if broken_of(net, old, saying) is broken_of(net, new, saying) is None]
            for mark, door, address, doors, end in self.letters_of(source, net, Run(net, old, new, plan)):
                counted[end and end[0], mark] = counted.get((end and end[0], mark), 0) + 1
                way = way_of(net, (old, new)[mark], door, address)
                if end is None or end[0] == "lost":
                    self.assertTrue(end is None or first is not None)
                    self.assertEqual(doors, gone_on(*way, len(doors)))
                    continue
                self.assertEqual((doors, end), way)
                for saying in kept:
                    if saying[2] == door and suits(saying[1], address):
                        self.assertTrue(is_so_by(saying, doors, end))
                        counted["kept"] = counted.get("kept", 0) + 1
        ends = [None, "out", "drop", "lost"]
        self.assertEqual(set(counted), {"kept"} | set(itertools.product(ends, [0, 1])))
        self.assertTrue(min(counted.values()) > 20, counted)

    def losing_moves(self, plan, told):
        """A run by a fault: the letter comes at the last time at which it still gets the mark that is wanted."""
        place, door, address, house = told
        turn = ("turn", door[0])
        if plan[place] == turn:
            ahead = place + 1
        else:
            ahead = plan.index(turn) if turn in plan[:place] else place
        behind = 0 if plan[place] == turn else place + 1 - ahead
        return [STEP] * ahead + [("come", door, address)] + [STEP] * behind

    def test_where_a_fault_is_told_a_run_loses_a_letter(self):
        source = random.Random(55)
        counted = {}
        for count in range(400):
            net, old, new, plan = drawn_run(source)
            told = fault(net, old, new, plan)
            if told is None:
                continue
            run = Run(net, old, new, plan)
            for move in self.losing_moves(plan, told):
                run.move(move)
            ends = [run.move(("go", 0))]
            while ends[-1][0] == "at" and len(ends) < 100:
                ends.append(run.move(("go", 0)))
            self.assertEqual(ends[-1][0], "lost")
            word = plan[told[0]][0]
            counted[word] = counted.get(word, 0) + 1
        self.assertEqual(set(counted), {"turn", "forget"})
        self.assertTrue(min(counted.values()) > 40, counted)


if __name__ == "__main__":
    unittest.main()
