"""Runs: letters come and go on while the steps of a plan are done, move by move."""

from nohalfway.errors import NoMove
from nohalfway.nets import copied_net
from nohalfway.patterns import is_address
from nohalfway.plans import WAIT, refuse_unless_plan
from nohalfway.ways import onward
from nohalfway.wholes import is_whole

STEP = ("step",)


def copied_books(books):
    return [list(book) for book in books]


class Letter:
    def __init__(self, mark, door, address):
        self.mark = mark
        self.address = address
        self.doors = [door]


class Run:
    def __init__(self, net, old, new, plan):
        refuse_unless_plan(net, old, new, plan)
        self.net = copied_net(net)
        self.books = (copied_books(old), copied_books(new))
        self.plan = list(plan)
        self.done = []
        self.came = 0
        self.letters = {}
        self.ended = []

    def move(self, move):
        if isinstance(move, tuple) and len(move) > 0 and isinstance(move[0], str):
            if move[0] == "come" and len(move) == 3:
                return self.come(move[1], move[2])
            if move[0] == "go" and len(move) == 2:
                return self.go(move[1])
            if move == STEP:
                return self.step()
        raise NoMove("a move is a come, a go or a step")

    def come(self, door, address):
        if not self.net.is_outer(door) or not is_address(address):
            raise NoMove("a letter comes in by an outer door, with an address")
        number = self.came
        mark = 1 if ("turn", door[0]) in self.done else 0
        self.letters[number] = Letter(mark, door, address)
        self.came = number + 1
        return number

    def go(self, number):
        if not is_whole(number) or number not in self.letters:
            raise NoMove("a letter goes on while it is under way")
        letter = self.letters[number]
        told = self.next_of(letter)
        if told[0] == "at":
            letter.doors.append((told[1], told[2]))
        else:
            self.letters.pop(number)
            self.ended.append((number, letter, told))
        return told

    def next_of(self, letter):
        door = letter.doors[-1]
        if not self.knows(door[0], letter.mark):
            return ("lost", door[0])
        return onward(self.net, self.books[letter.mark][door[0]], door, letter.address)

    def knows(self, house, mark):
        if mark == 1:
            return ("teach", house) in self.done
        return ("forget", house) not in self.done

    def step(self):
        if not self.may_step():
            raise NoMove("no step is left, or it is a wait for letters with the mark 0")
        self.done.append(self.plan[self.place()])
        return self.done[-1]

    def may_step(self):
        if self.place() == len(self.plan):
            return False
        if self.plan[self.place()] != WAIT:
            return True
        return all([letter.mark == 1 for letter in self.letters.values()])

    def place(self):
        return len(self.done)

    def under(self):
        # Letters are numbered as they come, so their numbers rise in the dict.
        told = []
        for number, letter in self.letters.items():
            door = letter.doors[-1]
            told.append((number, letter.mark, letter.address, door[0], door[1]))
        return told

    def journal(self):
        told = []
        for number, letter, end in self.ended:
            told.append((number, letter.mark, letter.doors[0], letter.address, list(letter.doors), end))
        return told

    def may(self):
        goes = [("go", number) for number in self.letters]
        return goes + ([STEP] if self.may_step() else [])
