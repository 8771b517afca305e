import itertools
import random
import unittest

from model import drawn_book, drawn_books, drawn_net, drawn_saying, way_of
from nohalfway import errors
from nohalfway.books import is_books
from nohalfway.nets import Net
from nohalfway.plans import plain_plan
from nohalfway.texts import (
    book_read, book_shown, net_read, net_shown, plan_read, plan_shown, saying_read, saying_shown, way_shown,
)
from nohalfway.ways import way
from run_model import drawn_plan
from text_model import read_of, shown_of, spoilt

NET = Net([2, 3, 1], [((0, 1), (1, 0)), ((1, 2), (2, 0))])
NET_TEXT = "2 3 1 0.1-1.0 1.2-2.0"
WAIT = ("wait",)
READERS = {
    "net": lambda text, net: net_read(text),
    "book": lambda text, net: book_read(text),
    "plan": plan_read,
    "saying": saying_read,
}
# What is of no form at all, whatever is read.
NO_TEXT = [
    "", " ", "  ", ",", ", ", " , ", ".", "--", "- ", " -", "-, -", "-,", ":", "any", "drop", "xxxx",
    "0.0 1.0 : out 1 2",
    "net", "x", "-1", "+1", "1.", ".1", "0.1-", "-0.1", "one", "1e1", "0x1", "1_0", "None", "()", "[]", "\n", "wait ",
    " wait", "Wait", "wait,", ",wait", "comes", "leaves",
]
NO_NUMBER = ["", "00", "01", "007", "1000", "0000", "+1", "-1", "1.0", "x", "1x", "one", "1_0", "0x1", "1e1", ","]
NO_PATTERN = ["", "xxx", "xxxxx", "xxx2", "XXXX", "0000x", "01x", "any", "-", "10", "xx.x", "xx,x"]
NO_DOOR = [
    "", "0", "0.", ".0", "0.0.0", "0,0", "0-0", "00.0", "0.00", "1000.0", "0.1000", "a.0", "0.a", "(0,0)", "..", ".",
]


class Told(unittest.TestCase):
    def assert_reads(self, kind, text, net=NET):
        """Reads as the second writing does, or is refused by the same class."""
        right = read_of(kind, text, net)
        with self.subTest(kind=kind, text=text):
            if isinstance(right, str):
                self.assert_refused(right, kind, text, net)
            else:
                told = READERS[kind](text, net)
                self.assertEqual((list(told.counts), told.wires()) if kind == "net" else told, right)
        return right

    def assert_refused(self, name, kind, text, net=NET):
        with self.subTest(kind=kind, text=text):
            with self.assertRaises(errors.WayError) as caught:
                READERS[kind](text, net)
            self.assertIs(type(caught.exception), getattr(errors, name))
            self.assertEqual(read_of(kind, text, net), name)

    def assert_no_text(self, kind, texts):
        for text in texts:
            self.assert_refused("NoText", kind, text)


class Nets(Told):
    def test_the_example(self):
        self.assertEqual(net_shown(NET), NET_TEXT)
        net = net_read(NET_TEXT)
        self.assertIsInstance(net, Net)
        self.assertEqual((net.many, [net.count(house) for house in range(3)], net.wires()), (3, [2, 3, 1], NET.wires()))
        self.assertEqual(net.outer(), [(0, 0), (1, 1)])

    def test_nets_without_wires(self):
        for counts in [[1], [4], [1, 2, 3, 4], [4] * 6]:
            text = " ".join(map(str, counts))
            self.assertEqual(net_shown(Net(counts, [])), text)
            self.assert_reads("net", text)

    def test_wires_are_written_as_they_were_handed_in(self):
        wires = [((1, 2), (0, 1)), ((1, 0), (0, 0)), ((2, 0), (2, 1))]
        self.assertEqual(net_shown(Net([2, 3, 2], wires)), "2 3 2 1.2-0.1 1.0-0.0 2.0-2.1")
        self.assertEqual(net_read("2 3 2 1.2-0.1 1.0-0.0 2.0-2.1").wires(), wires)

    def test_no_text(self):
        self.assert_no_text("net", NO_TEXT)
        self.assert_no_text("net", [f"{number} 2" for number in NO_NUMBER] + [f"2 {number}" for number in NO_NUMBER])
        for door in NO_DOOR:
            self.assert_no_text("net", [f"2 2 {door}-1.0", f"2 2 0.0-{door}"])
        self.assert_no_text("net", [
            "2  3 1 0.1-1.0", " 2 3 1 0.1-1.0", "2 3 1 0.1-1.0 ", "2 3 1  0.1-1.0", "2 3 1 0.1 -1.0", "2 3 1 0.1- 1.0",
            "2 3 1 0.1-1.0  1.2-2.0", "2, 3, 1", "2,3,1", "2 3 1, 0.1-1.0", "2 3 1 0.1-1.0, 1.2-2.0", "2 3 1 0.1:1.0",
            "2 3 1 0.1", "2 3 1 0.1-1.0-1.2", "2 3 1 0.1--1.0", "2 3 1 0.11.0", "2 3 1 0.1_1.0", "2 3 1 -", "- 2 3 1",
            "2 3 1\t0.1-1.0",
            "0.1-1.0 2 3 1", "2 0.1-1.0 3 1", "2 3 1 0.1-1.0 2", "net 2 3 1", "2 3 1 0.0-1.0 any", "2 3 1 wire",
        ])

    def test_no_net(self):
        for text in [
            "0", "5", "999", "2 0", "0 2", "5 1", "1 1 1 1 1 1 1", "2 0.0-0.0", "2 0.0-0.2", "2 0.0-1.0", "2 2.0-0.0",
            "2 2 0.0-1.0 1.0-0.1", "2 2 0.0-1.0 0.0-1.1", "2 2 0.0-1.0 0.0-1.0", "2 2 0.0-1.0 1.0-0.0",
            "2 2 999.999-0.0",
            "5 0.4-0.3", "0.0-0.1",
        ]:
            self.assert_refused("NoNet", "net", text)

    def test_no_text_goes_first(self):
        for text in ["0 ", "5 x", "2 0.0-0.0 1", "1 1 1 1 1 1 1 01", "2 0.0-0.0 0.0", "9 1000"]:
            self.assert_refused("NoText", "net", text)

    def test_drawn_nets(self):
        source = random.Random(81)
        for count in range(200):
            net = drawn_net(source, Net)
            text = net_shown(net)
            self.assertEqual(text, shown_of((list(net.counts), net.wires())))
            self.assert_reads("net", text)
            self.assertEqual(net_shown(net_read(text)), text)


class Books(Told):
    def test_rows(self):
        for book, text in [
            ([], "-"), ([("xxxx", None, None)], "xxxx any drop"), ([("1xx0", 0, 2)], "1xx0 0 2"),
            ([("0101", 3, None), ("xxxx", None, 0)], "0101 3 drop, xxxx any 0"),
            ([("xxxx", None, 1)] * 12, ", ".join(["xxxx any 1"] * 12)),
        ]:
            self.assertEqual(book_shown(book), text)
            self.assertEqual(book_read(text), book)
            self.assertEqual({type(row) for row in book_read(text)}, {tuple} if book else set())

    def test_neither_houses_nor_how_many_rows_are_looked_at(self):
        self.assertEqual(book_read("xxxx 999 10"), [("xxxx", 999, 10)])
        self.assertEqual(book_read(", ".join(["xxxx 4 9"] * 13)), [("xxxx", 4, 9)] * 13)
        self.assertEqual(len(book_read(", ".join(["0000 any drop"] * 200))), 200)

    def test_no_text(self):
        self.assert_no_text("book", [text for text in NO_TEXT if text != "-"])
        for pattern in NO_PATTERN:
            self.assert_no_text("book", [f"{pattern} any 0", f"xxxx any 0, {pattern} 0 0"])
        for number in NO_NUMBER:
            self.assert_no_text("book", [f"xxxx {number} 0", f"xxxx 0 {number}", f"xxxx 0 0, 0000 {number} drop"])
        self.assert_no_text("book", [
            "xxxx", "xxxx any", "xxxx any 0 0", "any xxxx 0", "xxxx drop any", "xxxx 0 any", "xxxx drop 0",
            "xxxx any any",
            "xxxx Any 0", "xxxx any Drop", "xxxx  any 0", "xxxx any  0", " xxxx any 0", "xxxx any 0 ", "xxxx any 0,",
            "xxxx any 0, ", ", xxxx any 0", "xxxx any 0,xxxx any 0", "xxxx any 0,  xxxx any 0",
            "xxxx any 0 , xxxx any 0",
            "xxxx any 0; xxxx any 0", "xxxx any 0 xxxx any 0", "xxxx any 0, -", "-, xxxx any 0", "--",
            "xxxx any 0, , xxxx any 0",
            "xxxx,any,0", "xxxx any 0.0", "xxxx 0.0 0", "xxxx * 0", "xxxx any -", "xxxx - 0", "xxxx None 0",
        ])

    def test_the_list_is_the_askers_own(self):
        for text in ["-", "xxxx any 0"]:
            kept = book_read(text)
            book_read(text).append(None)
            self.assertEqual(book_read(text), kept)

    def test_drawn_books(self):
        source = random.Random(82)
        for count in range(200):
            net = drawn_net(source, Net)
            books = drawn_books(source, net)
            self.assertTrue(is_books([book_read(book_shown(book)) for book in books], net))
            for book in books:
                self.assertEqual(book_shown(book), shown_of(book))
                self.assertEqual(self.assert_reads("book", book_shown(book)), book)


class Plans(Told):
    def test_steps(self):
        for plan, text in [
            ([], "-"), ([WAIT], "wait"), ([("teach", 0)], "teach 0"), ([("turn", 2), WAIT], "turn 2, wait"),
            ([WAIT, WAIT, ("forget", 1)], "wait, wait, forget 1"), ([WAIT] * 40, ", ".join(["wait"] * 40)),
            (plain_plan(Net([1, 1], [])), "teach 0, teach 1, turn 0, turn 1, wait, forget 0, forget 1"),
        ]:
            self.assertEqual(plan_shown(plan), text)
            self.assertEqual(plan_read(text, NET), plan)

    def test_no_text(self):
        self.assert_no_text("plan", [text for text in NO_TEXT if text != "-"])
        for number in NO_NUMBER:
            self.assert_no_text("plan", [f"teach {number}", f"wait, turn {number}, wait", f"forget {number}, teach 0"])
        self.assert_no_text("plan", [
            "teach", "turn", "forget", "wait 0", "wait wait", "teach 0 1", "0 teach", "0", "learn 0", "Teach 0",
            "TURN 0",
            "forgets 0", "step", "teach  0", " teach 0", "teach 0 ", "teach 0,", "teach 0, ", ", teach 0",
            "teach 0,turn 0",
            "teach 0,  turn 0", "teach 0 , turn 0", "teach 0; turn 0", "teach 0 turn 0", "teach 0, -", "-, teach 0",
            "teach any", "teach 0.0", "teach, 0", "teach-0", "wait, , wait", "teach 0, wait 0",
        ])

    def test_no_plan(self):
        for text in [
            "teach 3", "turn 999", "forget 6", "wait, teach 3", "teach 0, teach 0", "turn 1, wait, turn 1",
            "forget 2, teach 2, forget 2", ", ".join(["wait"] * 41), ", ".join(["teach 0"] * 50),
        ]:
            self.assert_refused("NoPlan", "plan", text)
        self.assertEqual(plan_read("teach 3", Net([1] * 4, [])), [("teach", 3)])

    def test_no_text_goes_first(self):
        for text in ["teach 3, wait 0", "teach 0, teach 0 ", "teach 0, teach 0, x", ", ".join(["wait"] * 41) + ","]:
            self.assert_refused("NoText", "plan", text)

    def test_the_list_is_the_askers_own(self):
        for text in ["-", "wait", "teach 0"]:
            kept = plan_read(text, NET)
            plan_read(text, NET).append(None)
            self.assertEqual(plan_read(text, NET), kept)

    def test_drawn_plans(self):
        source = random.Random(83)
        for count in range(200):
            net = drawn_net(source, Net)
            plan = drawn_plan(source, net.many, 0.5, 8)
            self.assertEqual(plan_shown(plan), shown_of(plan))
            self.assertEqual(self.assert_reads("plan", plan_shown(plan), net), plan)


class Ways(Told):
    def test_each_end(self):
        self.assertEqual(way_shown(([(0, 0), (1, 0)], ("out", 1, 2))), "0.0 1.0 : out 1 2")
        self.assertEqual(way_shown(([(3, 2)], ("out", 3, 2))), "3.2 : out 3 2")
        self.assertEqual(way_shown(([(5, 3), (0, 1), (2, 2)], ("drop", 2))), "5.3 0.1 2.2 : drop 2")
        self.assertEqual(way_shown(([(0, 0), (1, 0), (0, 1)], ("ring", 1))), "0.0 1.0 0.1 : ring 1")

    def test_drawn_ways(self):
        source = random.Random(84)
        ends = set()
        for count in range(300):
            net = drawn_net(source, Net)
            books, door, address = drawn_books(source, net), source.choice(net.outer()), source.randrange(16)
            doors, end = way_of(net, books, door, address)
            ends.add(end[0])
            parts = [f"{house}.{number}" for house, number in doors]
            right = f"{' '.join(parts)} : {' '.join(map(str, end))}"
            self.assertEqual(way_shown(way(net, books, door, address)), right)
        self.assertEqual(ends, {"out", "drop", "ring"})


class Sayings(Told):
    def test_each_word(self):
        for saying, text in [
            (("comes", "1xx0", (0, 0), (1, 1)), "comes 1xx0 0.0 1.1"), (("leaves", "xxxx", (1, 1)), "leaves xxxx 1.1"),
            (("noring", "0101", (0, 0)), "noring 0101 0.0"), (("by", "xxxx", (0, 0), 1), "by xxxx 0.0 1"),
            (("never", "x1x1", (1, 1), 2), "never x1x1 1.1 2"),
        ]:
            self.assertEqual(saying_shown(saying), text)
            self.assertEqual(saying_read(text, NET), saying)
            self.assertIs(type(saying_read(text, NET)), tuple)

    def test_the_examples(self):
        net = Net([1, 3], [])
        self.assertEqual(saying_read("comes 1xx0 0.0 1.2", net), ("comes", "1xx0", (0, 0), (1, 2)))
        self.assertEqual(saying_read("by xxxx 0.0 1", net), ("by", "xxxx", (0, 0), 1))
        self.assertEqual(saying_shown(("comes", "1xx0", (0, 0), (1, 2))), "comes 1xx0 0.0 1.2")
        self.assertEqual(saying_shown(("by", "xxxx", (0, 0), 1)), "by xxxx 0.0 1")

    def test_no_text(self):
        self.assert_no_text("saying", NO_TEXT + ["-"])
        for word, more in [("comes", " 1.1"), ("leaves", ""), ("noring", ""), ("by", " 1"), ("never", " 2")]:
            for pattern in NO_PATTERN:
                self.assert_no_text("saying", [f"{word} {pattern} 0.0{more}"])
            for door in NO_DOOR:
                self.assert_no_text("saying", [f"{word} xxxx {door}{more}"])
            right = f"{word} xxxx 0.0{more}"
            self.assert_no_text("saying", [
                right + " ", " " + right, right.replace(" ", "  ", 1), right.replace(" 0.0", "  0.0"), right + " 0",
                right + " 0.0", right + ", " + right, right.replace(" ", ", "), right.rpartition(" ")[0], right.upper(),
                right.replace(" ", "-"), word, f"{word} 0.0 xxxx{more}", right + ",",
            ])
        for number in NO_NUMBER + ["1.1"]:
            self.assert_no_text("saying", [f"by xxxx 0.0 {number}", f"never xxxx 0.0 {number}"])
        for door in NO_DOOR:
            self.assert_no_text("saying", [f"comes xxxx 0.0 {door}"])
        self.assert_no_text("saying", [
            "goes xxxx 0.0", "ring xxxx 0.0", "come xxxx 0.0 1.1", "by xxxx 0.0", "xxxx 0.0",
        ])

    def test_no_saying(self):
        for text in [
            "comes xxxx 0.1 1.1", "comes xxxx 0.0 1.0", "comes xxxx 0.0 9.9", "comes xxxx 999.0 0.0", "leaves xxxx 1.0",
            "leaves xxxx 3.0", "leaves xxxx 0.2", "noring 0000 2.0", "by xxxx 0.0 3", "by xxxx 0.1 1",
            "by 1111 0.0 999",
            "never xxxx 0.0 3", "never xxxx 1.2 0",
        ]:
            self.assert_refused("NoSaying", "saying", text)

    def test_no_text_goes_first(self):
        for text in ["comes xxxx 0.1 1", "by xxxx 9.9 x", "leaves xxx 9.9", "never xxxx 0.0 1000", "by xxxx 9.9 01"]:
            self.assert_refused("NoText", "saying", text)

    def test_drawn_sayings(self):
        source = random.Random(85)
        for count in range(300):
            net = drawn_net(source, Net)
            saying = drawn_saying(source, net)
            self.assertEqual(saying_shown(saying), shown_of(saying))
            self.assertEqual(self.assert_reads("saying", saying_shown(saying), net), saying)


class Numbers(Told):
    def test_all_that_are_written(self):
        for number in range(1000):
            self.assertEqual(book_read(f"xxxx {number} {number}"), [("xxxx", number, number)])
        for length in range(1, 5):
            for figures in itertools.product("0159", repeat=length):
                text = "".join(figures)
                right = length < 4 and str(int(text)) == text
                with self.subTest(text):
                    if right:
                        self.assertEqual(book_read(f"xxxx any {text}"), [("xxxx", None, int(text))])
                    else:
                        self.assert_refused("NoText", "book", f"xxxx any {text}")


class OtherThings(unittest.TestCase):
    def test_what_is_no_text_at_all(self):
        for kind, thing in itertools.product(READERS, [None, 0, True, b"-", ["-"], ("-",), {}, 2.5]):
            with self.subTest(kind=kind, thing=thing):
                self.assertRaises(errors.NoText, READERS[kind], thing, NET)


class Spoilt(Told):
    def test_drawn_texts_that_are_spoilt(self):
        source = random.Random(86)
        counted = {}
        for count in range(4000):
            net = drawn_net(source, Net)
            kind = source.choice(list(READERS))
            thing = {
                "net": lambda: (list(net.counts), net.wires()),
                "book": lambda: drawn_book(source, 4, 3),
                "plan": lambda: drawn_plan(source, net.many, 1),
                "saying": lambda: drawn_saying(source, net),
            }[kind]()
            text = shown_of(thing)
            for time in range(source.choice([1, 1, 2])):
                text = spoilt(source, text)
            right = self.assert_reads(kind, text, net)
            told = right if isinstance(right, str) else "read"
            counted[kind, told] = counted.get((kind, told), 0) + 1
        kinds = [(kind, told) for kind in READERS for told in ("read", "NoText")]
        kinds += [("net", "NoNet"), ("plan", "NoPlan"), ("saying", "NoSaying")]
        self.assertEqual(set(counted), set(kinds))
        self.assertTrue(min(counted.values()) > 20, counted)


if __name__ == "__main__":
    unittest.main()
