"""Tests for all that is refused as fault is. A test case that has them says in ask what is asked."""

import copy
import itertools

from model import ANYTHING, Stubborn
from nohalfway.errors import NoBooks, NoPlan
from nohalfway.nets import Net

WAIT = ("wait",)
NET = Net([2, 3, 2], [((0, 1), (1, 0)), ((1, 2), (2, 0))])
OLD = [[("xxxx", 0, 1)], [("xxxx", None, 2)], [("xxxx", None, 1)]]
NEW = [[("xxxx", None, 0)], [("xxxx", None, 1)], [("xxxx", None, 1)]]
PLAN = [("teach", 0), ("turn", 0), WAIT, ("forget", 0)]
NO_BOOKS = ANYTHING + [
    [], [[], []], [[], [], [], []], ([], [], []), [[], [], None], [[("xxxx", 2, 0)], [], []],
    [[("xxxx", 0, True)], [], []], [[], [], [("xxxx", None, None)] * 13], [[], [], [("xxxx", None)]],
]
NO_STEP = ANYTHING + [
    "wait", "teach", ["wait"], ["teach", 0], ("wait", 0), ("wait", None), ("wait", ()), ("teach",), ("turn",),
    ("forget",), ("teach", 0, 1), ("turn", 0, 0), ("forget", 0, None), ("teach", 3), ("turn", 3), ("forget", 3),
    ("teach", -1), ("turn", -1), ("forget", -1), ("teach", True), ("turn", False), ("forget", True), ("teach", "0"),
    ("turn", None), ("forget", 0.0), ("teach", (0,)), ("turn", [0]), ("turn", (0, 0)), ("teach", 10 ** 400),
    ("learn", 0), ("Teach", 0), ("TURN", 0), ("", 0), ("teach ", 0), ("forgets", 0), ("step",), ("Wait",), ("",), (0,),
    (0, "teach"), (0, 0), ("teach", Stubborn()), (Stubborn(), 0), ("wait", Stubborn()), ("teach", 0, Stubborn()),
    (b"teach", 0), [("teach", 0)], {"teach": 0}, ("teach", "turn"), (("teach", 0),),
]
NO_PLAN = ANYTHING + [[WAIT] * 41, [("turn", 0), ("turn", 0)], tuple(PLAN), PLAN + [None], WAIT, [[]], "-"]


class RefusedAsFault:
    def assert_refused(self, error, old, new, plan):
        with self.subTest(old=repr(old)[:200], new=repr(new)[:200], plan=repr(plan)[:200]):
            with self.assertRaises(error) as caught:
                self.ask(NET, old, new, plan)
            self.assertIs(type(caught.exception), error)

    def test_no_books(self):
        for books in NO_BOOKS:
            self.assert_refused(NoBooks, books, NEW, PLAN)
            self.assert_refused(NoBooks, OLD, books, PLAN)
            self.assert_refused(NoBooks, books, books, [])

    def test_no_plan(self):
        for plan in NO_PLAN:
            self.assert_refused(NoPlan, OLD, NEW, plan)
        for step in NO_STEP:
            self.assert_refused(NoPlan, OLD, NEW, [step])
            self.assert_refused(NoPlan, OLD, NEW, PLAN + [step])
            # A fault that stands ahead of it changes nothing of it.
            self.assert_refused(NoPlan, OLD, NEW, [("turn", 0), step])

    def test_no_books_goes_first(self):
        for books, plan in itertools.product(NO_BOOKS, NO_PLAN + [[step] for step in NO_STEP]):
            self.assert_refused(NoBooks, books, NEW, plan)
            self.assert_refused(NoBooks, OLD, books, plan)

    def test_forty_steps_and_twelve_rows_are_not_refused(self):
        books = [[("0000", 0, 0)] * 11 + book for book in NEW]
        self.ask(NET, books, books, PLAN + [WAIT] * 36)

    def test_nothing_that_is_handed_in_is_changed(self):
        old, new, plan = copy.deepcopy(OLD), copy.deepcopy(NEW), PLAN + [("wait", 0)]
        self.assert_refused(NoPlan, old, new, plan)
        self.assertEqual((old, new, plan), (OLD, NEW, PLAN + [("wait", 0)]))
        plan.pop()
        self.ask(NET, old, new, plan)
        self.assertEqual((old, new, plan), (OLD, NEW, PLAN))
