"""Point 3, (a) to (d), over the whole program: many letters drawn in a fixed manner are sent through it."""

import copy
import random
import unittest

from meet_model import drawn_change, is_end, leading_fault
from model import broken_of, drawn_saying, is_so_by, mixed_of, step, suits, way_of
from nohalfway.breaks import breaking
from nohalfway.meets import broken_throughout, leading, meets
from nohalfway.nets import Net
from nohalfway.orders import order
from nohalfway.papers import is_paper
from nohalfway.plans import fault, plain_plan
from nohalfway.runs import Run
from nohalfway.sayings import mixed
from nohalfway.ways import way
from run_model import drawn_plan


def gone(run, number):
    """A letter goes on to its end, or as far as one may want to see it go round: what is told of each go."""
    told = [run.move(("go", number))]
    while told[-1][0] == "at" and len(told) < 60:
        told.append(run.move(("go", number)))
    return told


class Ways(unittest.TestCase):
    """(a)"""

    def test_a_letter_of_a_run_goes_the_way_that_is_told(self):
        source = random.Random(101)
        ends = {}
        for count in range(200):
            net, old, new, row = drawn_change(source, Net, 6)
            run = Run(net, old, new, [])
            for number in range(5):
                door, address = source.choice(net.outer()), source.randrange(16)
                doors, end = way(net, old, door, address)
                self.assertEqual(run.move(("come", door, address)), number)
                told = gone(run, number)
                self.assertEqual([("at", *each) for each in doors[1:]], told[:len(doors) - 1])
                if end[0] == "ring":
                    self.assertEqual(told[len(doors) - 1], ("at", *doors[end[1]]))
                    self.assertEqual(told[-1][0], "at")
                else:
                    self.assertEqual(told[len(doors) - 1:], [end])
                ends[end[0]] = ends.get(end[0], 0) + 1
        self.assertEqual(set(ends), {"out", "drop", "ring"})
        self.assertTrue(min(ends.values()) > 50, ends)


class OneByOne(unittest.TestCase):
    """(b)"""

    def test_each_letter_keeps_what_must_be_kept_while_houses_are_changed_in_the_order(self):
        source = random.Random(102)
        counted = {"order": 0, "none": 0}
        for count in range(250):
            net, old, new, row = drawn_change(source, Net, 5)
            # Such as the old books keep, so that it hangs on the changes.
            sayings = [drawn_saying(source, net) for time in range(8)]
            sayings = [saying for saying in sayings if broken_of(net, old, saying) is None][:source.randint(0, 8)]
            word, told = order(net, old, new, sayings)
            counted[word] += len(told) > 1
            if word == "none":
                self.assertIs(is_paper(net, old, new, sayings, told), True)
                continue
            self.assertIs(is_paper(net, old, new, sayings, []), False)
            for changed in range(len(told) + 1):
                books = mixed(old, new, told[:changed])
                for saying in sayings:
                    for address in [address for address in range(16) if suits(saying[1], address)]:
                        self.assertTrue(is_so_by(saying, *way(net, books, saying[2], address)))
        self.assertTrue(min(counted.values()) > 20, counted)


class ByMarks(unittest.TestCase):
    """(c)"""

    def drawn_moves(self, source, net, run):
        """Does many moves, in which all that may be done comes by; tells the letters that were lost."""
        for time in range(80):
            moves = run.may()
            if source.random() < 0.3 and time < 50 or not moves:
                moves = [("come", source.choice(net.outer()), source.randrange(16))]
            run.move(source.choice(moves))
        return [letter for letter in run.journal() if letter[5][0] == "lost"]

    def test_letters_are_lost_only_where_a_fault_is_told(self):
        source = random.Random(103)
        counted = {}
        for count in range(300):
            net, old, new, row = drawn_change(source, Net, 5)
            plan = drawn_plan(source, net.many, source.choice([0.02, 0.1, 0.3]))
            faulty = fault(net, old, new, plan) is not None
            moves = breaking(net, old, new, plan)
            self.assertEqual(moves is not None, faulty)
            lost = any(self.drawn_moves(source, net, Run(net, old, new, plan)) for time in range(4))
            self.assertTrue(faulty or not lost)
            counted[faulty, lost] = counted.get((faulty, lost), 0) + 1
            if faulty:
                run = Run(net, old, new, plan)
                told = [run.move(move) for move in moves]
                self.assertEqual(told[-1][0], "lost")
                self.assertEqual(run.journal()[-1][5], told[-1])
        self.assertEqual(set(counted), {(False, False), (True, False), (True, True)})
        self.assertTrue(min(counted.values()) > 20, counted)

    def test_by_a_faultless_plan_each_letter_goes_by_one_book_alone(self):
        source = random.Random(104)
        marks = {0: 0, 1: 0}
        for count in range(150):
            net, old, new, row = drawn_change(source, Net, 5)
            run = Run(net, old, new, plain_plan(net))
            self.assertEqual(self.drawn_moves(source, net, run), [])
            for number, mark, door, address, doors, end in run.journal():
                self.assertEqual((doors, end), way(net, (old, new)[mark], door, address))
                marks[mark] += 1
        self.assertTrue(min(marks.values()) > 100, marks)

    def test_some_letter_goes_half_by_one_and_half_by_the_other_where_no_plan_is_followed(self):
        # So that it is seen that the drawn changes are such as marks are needed for.
        source = random.Random(105)
        halved = 0
        for count in range(150):
            net, old, new, row = drawn_change(source, Net, 5)
            door, address = source.choice(net.outer()), source.randrange(16)
            ends = [way_of(net, mixed_of(old, new, row[:size]), door, address)[1] for size in range(len(row) + 1)]
            met = [thing for thing in meets(net, old, new, row, door, address) if thing[0] in ("out", "drop")]
            halved += any(thing not in ends for thing in met)
        self.assertTrue(halved > 3, halved)


class WithoutPlans(unittest.TestCase):
    """(d)"""

    def drawn_weaving(self, source, net, old, new, row, door, address):
        """A letter goes, houses are changed between; tells all that it comes to."""
        things, doors, numbers = [], [], []
        number = source.choice([0, 0, source.randint(0, len(row))])
        while not is_end(door) and len(doors) < 40:
            doors.append(door)
            numbers.append(number)
            things.append(("at", door[0]))
            door = step(net, mixed_of(old, new, row[:number]), door, address)
            if any(door == was and set(numbers[place:]) == {number} for place, was in enumerate(doors)):
                things.append(("ring",))
            if source.random() < 0.4:
                number = source.randint(number, len(row))
        return things + ([door] if is_end(door) else [])

    def test_whatever_a_letter_comes_to_in_a_weaving_is_told_to_be_met(self):
        source = random.Random(106)
        counted = {}
        for count in range(250):
            net, old, new, row = drawn_change(source, Net, 6)
            door, address = source.choice(net.outer()), source.randrange(16)
            told = meets(net, old, new, row, door, address)
            for time in range(12):
                for thing in self.drawn_weaving(source, net, old, new, row, door, address):
                    self.assertIn(thing, told)
                    counted[thing[0]] = counted.get(thing[0], 0) + 1
            # And just that is told: each with a weaving that leads there.
            for thing in told:
                numbers = leading(net, old, new, row, door, address, thing)
                self.assertIsNone(leading_fault(net, old, new, row, door, address, thing, numbers))
        self.assertEqual(set(counted), {"at", "out", "drop", "ring"})
        self.assertTrue(min(counted.values()) > 50, counted)

    def test_a_saying_that_is_kept_throughout_is_kept_by_each_letter(self):
        source = random.Random(107)
        counted = {"kept": 0, "broken": 0}
        for count in range(250):
            net, old, new, row = drawn_change(source, Net, 5)
            saying = drawn_saying(source, net)
            if broken_throughout(net, old, new, row, saying) is not None:
                counted["broken"] += 1
                continue
            counted["kept"] += 1
            for address in [address for address in range(16) if suits(saying[1], address)]:
                things = self.drawn_weaving(source, net, old, new, row, saying[2], address)
                doors = [(thing[1], 0) for thing in things if thing[0] == "at"]
                for end in [thing for thing in things if thing[0] != "at"]:
                    # Of a ring only its doors up to there were seen, and of by it may be that more come.
                    if saying[0] != "by" or end[0] != "ring":
                        self.assertTrue(is_so_by(saying, doors, end))
        self.assertTrue(min(counted.values()) > 50, counted)


class NothingIsChanged(unittest.TestCase):
    """Point 2, of all that is asked of the same net, books, sayings and plan."""

    def test_what_is_handed_in_stays_and_what_is_told_is_told_again(self):
        source = random.Random(108)
        for count in range(40):
            net, old, new, row = drawn_change(source, Net, 4)
            sayings = [drawn_saying(source, net) for time in range(3)]
            plan = drawn_plan(source, net.many)
            door, address = net.outer()[0], source.randrange(16)
            handed = (old, new, row, sayings, plan)
            kept = copy.deepcopy((*handed, net.wires()))
            asks = [
                lambda: way(net, old, door, address), lambda: order(net, old, new, sayings),
                lambda: fault(net, old, new, plan), lambda: breaking(net, old, new, plan),
                lambda: meets(net, old, new, row, door, address),
                lambda: leading(net, old, new, row, door, address, ("at", door[0])),
                lambda: [broken_throughout(net, old, new, row, saying) for saying in sayings],
            ]
            early = [ask() for ask in asks]
            saved = copy.deepcopy(early)
            late = [ask() for ask in asks]
            self.assertEqual((early, late), (saved, saved))
            for told in late:
                for part in [told] if isinstance(told, list) else told or ():
                    if isinstance(part, list):
                        part.append(None)
            self.assertEqual(early, saved)
            self.assertEqual([ask() for ask in asks], saved)
            self.assertEqual((*handed, net.wires()), kept)


if __name__ == "__main__":
    unittest.main()
