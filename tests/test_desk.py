import itertools
import random
import unittest

from desk_model import DeskOf, drawn_right_row, drawn_wrong_row, net_row
from model import drawn_net
from nohalfway import errors
from nohalfway.desk import Desk
from nohalfway.nets import Net

# Three houses in a row; outer doors 0.0 and 1.1.
NET = "net 2 3 1 0.1-1.0 1.2-2.0"
ANSWERED = [
    (NET, "ok"), ("old 0 xxxx any 0", "ok"), ("new 0 1xxx 0 1, xxxx any 0", "ok"), ("new 1 xxxx 0 1", "ok"),
    ("must leaves xxxx 0.0", "ok"),
]
QUESTIONS = [
    "way old 0.0 8", "way new 0.0 8", "way old 1.1 3", "way new 1.1 3", "keep old leaves xxxx 0.0",
    "keep new never xxxx 0.0 1", "keep new by xxxx 1.1 2", "order", "fault", "under", "meet 0.0 8", "meet 0.0 8 0 1 2",
    "meet 1.1 0 2 0", "meet 0.0 8 1 0",
]
ONLY_AT_FIRST = ["old 0 -", "new 2 xxxx any drop", "must leaves xxxx 0.0", "plan wait", "plan -"]
LET_BEHIND_A_NET = ONLY_AT_FIRST + QUESTIONS + ["come 0.0 8", "step", "go 0"]
NO_ROWS = [
    "", " ", "  ", "   ", "\n", "x", "ok", "Net 1", "NET 1", "net", "nets 1", " net 1", "  net 1", "1", "-", "wait",
    "old", "old ", "old 0", "new", "new 1", "Old 0 -", "oldest 0 -", " old 0 -", "must", " must leaves xxxx 0.0",
    "leaves xxxx 0.0", "plan", " plan -", "way", "way ", "way old", "way old 0.0",
    "way old 0.0 8 0", "way old 0.0 8 ", "way  old 0.0 8", "way old  0.0 8", "way both 0.0 8", "way 0.0 8",
    "way 0.0 8 old", "way Old 0.0 8", "way mixed 0.0 8", " way old 0.0 8", "keep", "keep old", "keep new",
    "keep leaves xxxx 0.0", "keep  old leaves xxxx 0.0", "keep both leaves xxxx 0.0", " keep old leaves xxxx 0.0",
    "order ", " order", "order 0", "orders", "Order", "fault ", " fault", "fault 0", "faults", "come", "come 0.0",
    "come 0.0 8 ", "come 0.0 8 1", "come  0.0 8", " come 0.0 8", "go", "go 0 ", "go 0 0", "go  0", " go 0", "goes 0",
    "step ", " step", "step 1", "steps", "under ", " under", "under 0", "Under", "meet", "meet 0.0", " meet 0.0 8",
    "meet ", "meets 0.0 8", "meet 0.0 8 0 0", "meet 0.0 8 0 1 0", "meet 0.0 8 2 1 1", "may", "journal", "place",
]


def saying(desk, row):
    """What a desk says of a row, the name of a refusal told apart from an answer."""
    try:
        return "= " + desk.say(row)
    except errors.WayError as error:
        return "! " + type(error).__name__


class Told(unittest.TestCase):
    def assert_said(self, desk, *rows_and_answers):
        for row, right in rows_and_answers:
            with self.subTest(row=row):
                told = desk.say(row)
                self.assertEqual((row, told), (row, right))
                self.assertIs(type(told), str)

    def assert_refused(self, desk, name, row):
        with self.subTest(row=row):
            self.assertEqual((row, saying(desk, row)), (row, "! " + name))

    def desk_of(self, *rows):
        desk = Desk()
        for row in rows:
            self.assertEqual((row, desk.say(row)), (row, "ok"))
        return desk

    def begun_desk(self):
        return self.desk_of(*[row for row, answer in ANSWERED])


class Answers(Told):
    def test_nets(self):
        for row in ["net 1", NET, "net 4 4 4 4 4 4", "net 2 0.0-0.1", "net 1 1 0.0-1.0"]:
            self.assert_said(Desk(), (row, "ok"))

    def test_a_new_net(self):
        desk = self.desk_of(NET)
        self.assert_said(
            desk, ("way old 0.0 8", "0.0 : drop 0"), ("way new 1.1 0", "1.1 : drop 1"), ("order", "order"),
            ("fault", "none"), ("under", "0"), ("meet 0.0 8 0 1 2", "at 0, drop 0"),
        )
        steps = "teach 0|teach 1|teach 2|turn 0|turn 1|turn 2|wait|forget 0|forget 1|forget 2".split("|")
        self.assert_said(desk, *[("step", step) for step in steps])
        self.assert_refused(desk, "NoMove", "step")

    def test_books(self):
        desk = Desk()
        self.assert_said(
            desk, *ANSWERED, ("way old 0.0 8", "0.0 : out 0 0"), ("way new 0.0 8", "0.0 1.0 : out 1 1"),
            ("way new 0.0 0", "0.0 : out 0 0"), ("old 0 -", "ok"), ("way old 0.0 8", "0.0 : drop 0"),
            ("way new 0.0 8", "0.0 1.0 : out 1 1"), ("new 0 xxxx any 1", "ok"), ("new 1 xxxx any 0", "ok"),
            ("way new 0.0 8", "0.0 1.0 0.1 : ring 1"), ("way old 0.0 8", "0.0 : drop 0"),
        )

    def test_keep(self):
        desk = self.begun_desk()
        self.assert_said(
            desk, ("keep old leaves xxxx 0.0", "yes"), ("keep new never xxxx 0.0 1", "no 8"),
            ("keep new never xx11 0.0 1", "no 11"), ("keep old never xxxx 0.0 1", "yes"),
            ("keep old comes xxxx 0.0 0.0", "yes"), ("keep new comes xxxx 0.0 0.0", "no 8"),
            ("keep new noring xxxx 0.0", "yes"), ("keep old by xxxx 0.0 1", "no 0"), ("keep new by 1xxx 0.0 1", "yes"),
        )

    def test_order(self):
        desk = self.begun_desk()
        self.assert_said(desk, ("order", "order 1 0"))
        self.assert_said(desk, ("must never xxxx 0.0 1", "ok"), ("order", "none"))
        self.assert_said(self.desk_of(NET), ("order", "order"))
        self.assert_said(self.desk_of(NET, "must leaves xxxx 0.0"), ("order", "none"))
        self.assert_said(self.desk_of(NET, "new 2 xxxx any drop"), ("order", "order 2"))

    def test_fault(self):
        desk = self.begun_desk()
        self.assert_said(
            desk, ("fault", "none"), ("plan teach 0, turn 0", "ok"), ("fault", "1 0.0 8 1"), ("plan forget 1", "ok"),
            ("fault", "0 1.1 0 1"), ("plan -", "ok"), ("fault", "none"), ("plan wait, turn 1", "ok"),
            ("fault", "1 1.1 0 1"),
        )

    def test_moves(self):
        desk = self.begun_desk()
        self.assert_said(
            desk, ("come 0.0 8", "0"), ("come 1.1 15", "1"), ("under", "2"), ("go 1", "drop 1"), ("under", "1"),
            ("step", "teach 0"), ("step", "teach 1"), ("step", "teach 2"), ("step", "turn 0"), ("come 0.0 8", "2"),
            ("go 0", "out 0 0"), ("go 2", "at 1 0"), ("under", "1"), ("go 2", "out 1 1"), ("under", "0"),
            ("step", "turn 1"), ("step", "turn 2"), ("come 0.0 9", "3"), ("step", "wait"), ("step", "forget 0"),
        )

    def test_lost_letters_and_waits(self):
        desk = self.desk_of(NET, "plan wait, forget 0, turn 1", "old 0 xxxx any 1")
        self.assert_said(desk, ("come 0.0 8", "0"))
        self.assert_refused(desk, "NoMove", "step")
        self.assert_said(desk, ("go 0", "at 1 0"), ("go 0", "drop 1"), ("step", "wait"), ("come 0.0 0", "1"),
                         ("step", "forget 0"), ("go 1", "lost 0"), ("step", "turn 1"), ("come 1.1 0", "2"),
                         ("go 2", "lost 1"), ("under", "0"))

    def test_a_thousand_letters(self):
        desk = self.desk_of("net 1")
        for number in range(1001):
            self.assertEqual(desk.say("come 0.0 0"), str(number))
        self.assert_said(desk, ("under", "1001"), ("go 999", "drop 0"), ("under", "1000"))
        self.assert_refused(desk, "NoText", "go 1000")

    def test_meet(self):
        desk = self.begun_desk()
        self.assert_said(
            desk, ("meet 0.0 8", "at 0, out 0 0"), ("meet 0.0 8 0", "at 0, at 1, drop 1, out 0 0"),
            ("meet 0.0 8 0 1", "at 0, at 1, drop 1, out 0 0, out 1 1"),
            ("meet 0.0 8 1 0 2", "at 0, at 1, out 0 0, out 1 1"), ("meet 0.0 0 1 0 2", "at 0, out 0 0"),
            ("new 1 xxxx any 0", "ok"), ("new 0 xxxx any 1", "ok"), ("meet 0.0 8 1 0", "at 0, at 1, out 0 0, ring"),
        )

    def test_eight_sayings(self):
        desk = self.desk_of(NET, *["must leaves xxxx 0.0"] * 8)
        self.assert_refused(desk, "NoRow", "must leaves xxxx 0.0")
        self.assert_said(desk, ("order", "none"), ("old 0 xxxx any 0", "ok"), ("new 0 xxxx 0 0", "ok"),
                         ("order", "order 0"))
        self.assert_refused(desk, "NoRow", "must never xxxx 0.0 1")

    def test_the_eighth_saying_must_be_kept_too(self):
        desk = self.desk_of(NET, *["must noring xxxx 0.0"] * 7, "must by xxxx 0.0 1")
        self.assert_said(desk, ("order", "none"))

    def test_a_long_book_and_a_long_plan(self):
        rows = ", ".join(["0000 0 drop"] * 11 + ["xxxx any 1"])
        desk = self.desk_of(NET, f"old 1 {rows}", "plan " + ", ".join(["wait"] * 40))
        self.assert_said(desk, ("way old 1.1 5", "1.1 : out 1 1"), *[("step", "wait")] * 40)
        self.assert_refused(desk, "NoMove", "step")


class OnlyAtFirst(Told):
    def test_let_while_nothing_was_done(self):
        desk = self.begun_desk()
        for row in QUESTIONS:
            desk.say(row)
        for row in ONLY_AT_FIRST:
            self.assert_said(desk, (row, "ok"))

    def test_not_let_behind_a_letter(self):
        desk = self.begun_desk()
        desk.say("come 0.0 8")
        self.assert_none_is_let(desk)
        desk.say("go 0")
        self.assert_said(desk, ("under", "0"))
        self.assert_none_is_let(desk)

    def test_not_let_behind_a_step(self):
        desk = self.begun_desk()
        desk.say("step")
        self.assert_none_is_let(desk)

    def assert_none_is_let(self, desk):
        before = [saying(desk, row) for row in QUESTIONS]
        # Whatever else is wrong with them, that they are not let goes first.
        wrong = ["old 9 -", "old 0 x", "new 0 xxxx 7 7", "must x", "must leaves xxxx 9.9", "plan x", "plan teach 9"]
        for row in ONLY_AT_FIRST + wrong:
            self.assert_refused(desk, "NoRow", row)
        self.assertEqual([saying(desk, row) for row in QUESTIONS], before)

    def test_a_refused_move_is_none(self):
        desk = self.begun_desk()
        for row, name in [("go 0", "NoMove"), ("come 9.9 0", "NoDoor"), ("come 0.0 16", "NoAddress")]:
            self.assert_refused(desk, name, row)
        self.assert_said(desk, ("plan -", "ok"))
        self.assert_refused(desk, "NoMove", "step")
        self.assert_said(desk, ("old 0 -", "ok"), ("must leaves xxxx 0.0", "ok"), ("plan wait", "ok"), ("step", "wait"))

    def test_let_again_behind_a_net(self):
        desk = self.begun_desk()
        desk.say("come 0.0 8")
        desk.say("step")
        self.assert_said(desk, (NET, "ok"), *[(row, "ok") for row in ONLY_AT_FIRST])


class ANewNet(Told):
    def test_it_brings_all_back_to_the_first_state(self):
        for net in [NET, "net 2 2 0.1-1.1"]:
            fresh = self.desk_of(net)
            desk = self.begun_desk()
            self.assert_said(desk, ("plan teach 0, turn 0", "ok"), ("come 0.0 8", "0"), ("step", "teach 0"))
            self.assert_said(desk, (net, "ok"))
            rows = QUESTIONS + ["come 0.0 8", "step", "go 0", "under"] + ["step"] * 10
            rows += ["must leaves xxxx 0.0"] * 9 + ["order"]
            for row in rows:
                self.assertEqual((row, saying(desk, row)), (row, saying(fresh, row)))

    def test_nine_sayings_in_all(self):
        desk = self.desk_of(NET, *["must leaves xxxx 0.0"] * 8, NET, *["must leaves xxxx 0.0"] * 8)
        self.assert_refused(desk, "NoRow", "must leaves xxxx 0.0")

    def test_houses_and_doors_of_the_new_net(self):
        desk = self.desk_of(NET, "net 1 1")
        self.assert_refused(desk, "NoDoor", "old 2 -")
        self.assert_refused(desk, "NoDoor", "come 1.1 0")
        self.assert_said(desk, ("come 1.0 0", "0"))
        self.assert_said(desk, ("net 1", "ok"))
        self.assert_refused(desk, "NoDoor", "come 1.0 0")


class AheadOfTheFirstNet(Told):
    def test_only_net_is_let(self):
        desk = Desk()
        for row in LET_BEHIND_A_NET + NO_ROWS + ["come x y", "go x", "old 9 x", "meet 9.9 99 9", "must x", "plan x"]:
            self.assert_refused(desk, "NoRow", row)
        for row, name in [("net x", "NoText"), ("net ", "NoText"), ("net 9", "NoNet"), ("net 2 0.0-0.0", "NoNet")]:
            self.assert_refused(desk, name, row)
            self.assert_refused(desk, "NoRow", "order")
        self.assert_said(desk, (NET, "ok"), ("order", "order"))


class Refusals(Told):
    def test_no_row(self):
        desk = self.begun_desk()
        before = [saying(desk, row) for row in QUESTIONS]
        for row in NO_ROWS:
            self.assert_refused(desk, "NoRow", row)
        self.assertEqual([saying(desk, row) for row in QUESTIONS], before)

    def test_no_text(self):
        for row in [
            "net ", "net  ", "net x", "net 01", "net 1000", "net 2  2", "net 2 2 ", "net  2", "net 2 2 0.0", "net -",
            "old 0 ", "old  -", "old  ", "old x -", "old 00 -", "old 1000 -", "old 0  -", "old 0 - ",
            "old 0 xxxx any 0,",
            "old 0 xxx any 0", "old 0 x", "new 0 xxxx any", "new 0 0 xxxx any 0", "new 0.0 -", "new any -",
            "must ", "must x", "must  leaves xxxx 0.0", "must leaves xxxx", "must leaves xxxx 0.0 ",
            "must leaves x 0.0", "plan ", "plan x", "plan  -", "plan wait 0", "plan teach", "plan teach 0,",
            "plan teach 0 turn 0",
            "way old 0 8", "way old x 8", "way old 0.0 x", "way new 0.0 08", "way new 0.0 1000", "way new 0.0 -1",
            "way old  8", "way old 0.0 ", "way new  ", "keep old ", "keep new x", "keep old  leaves xxxx 0.0",
            "keep old leaves xxxx", "keep old leaves", "come  8", "come 0.0 ", "come  ", "come x 8", "come 0 8",
            "come 0.0.0 8", "come 0.0 x", "come 0.0 00", "go ", "go x", "go -1", "go 00", "go 1000", "go 0.0",
            "meet x 8", "meet 0.0 x", "meet  8", "meet 0.0 ", "meet  ", "meet 0.0 8 x", "meet 0.0 8 ", "meet 0.0 8  ",
            "meet 0.0 8 0 ", "meet 0.0 8  0", "meet 0.0 8 00", "meet 0.0 8 00 00", "meet 0.0 8 x x", "meet 0.0 8 0.0",
            "meet 0.0 8 0, 1", "meet 0.0 8 1000", "meet 0.0 8 -",
        ]:
            self.assert_refused(self.begun_desk(), "NoText", row)

    def test_no_door_and_no_address(self):
        desk = self.begun_desk()
        for row in ["old 3 -", "new 999 -", "way old 0.1 0", "way old 3.0 0", "way new 0.2 0", "way new 2.0 15",
                    "come 1.0 0", "come 1.2 8", "come 9.9 9", "meet 0.1 8", "meet 3.0 8 0", "meet 0.0 8 3",
                    "meet 0.0 8 0 1 2 3", "meet 0.0 15 999", "meet 1.1 0 0 6 1"]:
            self.assert_refused(desk, "NoDoor", row)
        for row in ["way old 0.0 16", "way new 1.1 999", "come 0.0 16", "come 1.1 20", "meet 0.0 16",
                    "meet 0.0 16 0 1"]:
            self.assert_refused(desk, "NoAddress", row)

    def test_as_told(self):
        desk = self.begun_desk()
        for name, rows in {
            "NoNet": ["net 0", "net 5", "net 1 1 1 1 1 1 1", "net 2 0.0-0.0", "net 2 0.0-1.0",
                      "net 2 2 0.0-1.0 0.0-1.1"],
            "NoBooks": ["old 0 xxxx 2 0", "old 0 xxxx any 2", "new 1 xxxx any 3", "new 2 xxxx 1 drop",
                        "old 0 " + ", ".join(["xxxx any 0"] * 13)],
            "NoSaying": ["must leaves xxxx 0.1", "must comes xxxx 0.0 1.2", "must by xxxx 0.0 3",
                         "must never xxxx 9.0 0", "keep old leaves xxxx 2.0", "keep new never xxxx 0.0 3",
                         "keep new comes xxxx 3.0 0.0"],
            "NoPlan": ["plan teach 3", "plan teach 0, teach 0", "plan " + ", ".join(["wait"] * 41), "plan turn 999"],
            "NoMove": ["go 0", "go 1", "go 999"],
        }.items():
            for row in rows:
                self.assert_refused(desk, name, row)
        desk.say("plan wait")
        desk.say("come 0.0 8")
        self.assert_refused(desk, "NoMove", "step")
        desk.say("go 0")
        self.assert_refused(desk, "NoMove", "go 0")
        desk.say("step")
        self.assert_refused(desk, "NoMove", "step")

    def test_where_several_are_due_the_first_one_goes(self):
        desk = self.begun_desk()
        for name, rows in {
            "NoRow": ["way old x y z", "way both x 99", "come 9.9", "come x y z", "go x y", "meet x y 0 0",
                      "meet 9.9 99 9 9", "meet 9.9 x 1 x 1", "meet x", "keep both x", "old 9", "step x"],
            "NoText": ["old 9 x", "old x xxxx 9 9", "old 9 xxxx 9", "way old 9.9 x", "way old x 99", "come 9.9 x",
                       "come x 99", "meet 9.9 99 x", "meet 9.9 x 9", "meet x 99 9", "meet 9.9 99 9 00",
                       "must leaves xxx 9.9", "must by xxxx 9.9 x", "plan teach 9, x", "net 9 x", "net 2 0.0-0.0 2"],
            "NoDoor": ["old 9 xxxx 9 9", "new 3 " + ", ".join(["xxxx any 0"] * 13), "way old 9.9 99", "come 0.1 16",
                       "meet 9.9 99", "meet 9.9 99 9", "meet 0.0 15 9", "meet 0.1 0 9"],
            "NoAddress": ["meet 0.0 16 9", "meet 0.0 99 3 0", "meet 0.0 16 0 1 999"],
        }.items():
            for row in rows:
                self.assert_refused(desk, name, row)

    def test_a_ninth_saying_is_not_let_however_it_is_written(self):
        desk = self.desk_of(NET, *["must leaves xxxx 0.0"] * 8)
        for row in ["must leaves xxxx 0.0", "must ", "must x", "must leaves xxxx 9.9"]:
            self.assert_refused(desk, "NoRow", row)

    def test_what_is_no_text_at_all(self):
        desk = self.begun_desk()
        for row in [None, 0, True, b"order", ["order"], ("order",), {}]:
            self.assertRaises(errors.NoRow, desk.say, row)
            self.assertRaises(errors.NoRow, Desk().say, row)

    def test_what_is_refused_changes_nothing(self):
        refused = NO_ROWS + [
            "net x", "net 9", "old 0 xxxx any 2", "old 3 -", "new 0 xxxx 9 9", "new 1 x", "must leaves xxxx 0.1",
            "must x",
            "plan teach 9", "plan x", "plan teach 0, teach 0", "come 9.9 0", "come 0.0 16", "go 7", "meet 0.0 8 7",
            "old 0 " + ", ".join(["xxxx any 1"] * 13),
        ]
        moves = ["come 0.0 8", "step", "go 0", "come 1.1 4", "step", "step", "step", "step", "come 0.0 12", "under",
                 "go 2", "step", "go 1", "step", "go 2", "step", "step"]
        desk, plain = self.begun_desk(), self.begun_desk()
        for move in QUESTIONS + ["new 2 xxxx any drop", "must noring xxxx 1.1", "order"] + moves + QUESTIONS:
            for row in refused:
                self.assertEqual((row, saying(desk, row)[0]), (row, "!"))
            self.assertEqual((move, saying(desk, move)), (move, saying(plain, move)))


class Beside(Told):
    def test_two_desks_do_not_touch_each_other(self):
        one, other = Desk(), Desk()
        self.assert_said(one, (NET, "ok"))
        self.assert_refused(other, "NoRow", "order")
        self.assert_said(other, (NET, "ok"), ("old 0 xxxx any 0", "ok"), ("must leaves xxxx 0.0", "ok"))
        self.assert_said(one, ("way old 0.0 8", "0.0 : drop 0"), ("order", "order"), ("come 0.0 8", "0"))
        self.assert_said(one, ("step", "teach 0"))
        self.assert_said(other, ("plan turn 0", "ok"), ("under", "0"), ("come 1.1 3", "0"), ("step", "turn 0"))
        self.assert_said(one, ("under", "1"), ("go 0", "drop 0"), ("step", "teach 1"), ("fault", "none"))
        self.assert_said(other, ("under", "1"), ("fault", "0 0.0 0 0"), ("way old 0.0 8", "0.0 : out 0 0"))

    def test_the_first_net_of_another_desk(self):
        first = self.desk_of(NET, "plan -", "old 0 xxxx any 1", "must leaves xxxx 0.0")
        first.say("come 0.0 8")
        fresh = self.desk_of(NET)
        self.assert_said(fresh, ("way old 0.0 8", "0.0 : drop 0"), ("order", "order"), ("under", "0"))
        self.assert_said(fresh, ("step", "teach 0"))


class AgainstTheModel(unittest.TestCase):
    def test_drawn_rows(self):
        source = random.Random(91)
        counted = {}
        for count in range(300):
            desk, model = Desk(), DeskOf()
            net = drawn_net(source, Net, 4)
            rows = [drawn_right_row(source, net, 0), net_row(net)]
            for time in range(source.choice([15, 60])):
                came = 0
                if model.net is not None:
                    net, came = model.net, len(model.run.letters)
                # Nothing is let but questions once letters come, so that there are few moves at first.
                draw = drawn_wrong_row if source.random() < 0.3 else drawn_right_row
                row = rows.pop(0) if rows else draw(source, net, came)
                if time < 12 and row.split(" ")[0] in ("come", "step"):
                    continue
                told, right = saying(desk, row), model.say(row)
                self.assertEqual((row, told), (row, right))
                kind = right if right[0] == "!" else row.split(" ")[0]
                counted[kind] = counted.get(kind, 0) + 1
        words = "net old new must plan way keep order fault come go step under meet".split()
        names = "NoRow NoText NoDoor NoAddress NoNet NoBooks NoSaying NoPlan NoMove".split()
        self.assertEqual(set(counted), set(words) | {"! " + name for name in names})
        self.assertTrue(min(counted.values()) >= 10, counted)

    def test_each_row_with_one_word_more_less_or_other(self):
        rows = [row for row, answer in ANSWERED] + LET_BEHIND_A_NET
        desk, model = Desk(), DeskOf()
        for row in [row for row, answer in ANSWERED] + ["come 0.0 8"]:
            self.assertEqual(saying(desk, row), model.say(row))
        others = ["", "0", "9", "99", "0.0", "9.9", "x", "xxxx", "old", "-", "wait", "any"]
        for row, word in itertools.product(rows, others):
            words = row.split(" ")
            for place, gone in itertools.product(range(len(words) + 1), [0, 1]):
                for more in [[], [word]]:
                    tried = " ".join(words[:place] + more + words[place + gone:])
                    # Both are told the same in the same order, so that they stay in the same state.
                    self.assertEqual((tried, saying(desk, tried)), (tried, model.say(tried)))


if __name__ == "__main__":
    unittest.main()
