"""The desk, which is told rows of words and answers each."""

from nohalfway.errors import NoAddress, NoDoor, NoRow
from nohalfway.meets import meets
from nohalfway.orders import MOST_SAYINGS, order
from nohalfway.patterns import is_address
from nohalfway.plans import fault, plain_plan
from nohalfway.runs import Run
from nohalfway.sayings import broken
from nohalfway.texts import book_read, door_read, is_number, net_read, number_read, plan_read, saying_read
from nohalfway.texts import door_shown, way_shown, words_shown
from nohalfway.ways import way

# What a row tells behind its name. Behind meet there are houses too, as many as one likes.
ROWS = {
    "net": ("net",),
    "old": ("house", "book"),
    "new": ("house", "book"),
    "must": ("saying",),
    "plan": ("plan",),
    "way old": ("door", "address"),
    "way new": ("door", "address"),
    "keep old": ("saying",),
    "keep new": ("saying",),
    "order": (),
    "fault": (),
    "come": ("door", "address"),
    "go": ("letter",),
    "step": (),
    "under": (),
    "meet": ("door", "address"),
}
KINDS_WITH_BLANKS = ("net", "book", "saying", "plan")
LET_ONLY_AT_FIRST = ("old", "new", "must", "plan")


def name_of(words):
    return " ".join(words[:2]) if words[0] in ("way", "keep") else words[0]


def kinds_of(name, count):
    kinds = ROWS[name]
    return kinds + ("house",) * (count - len(kinds)) if name == "meet" else kinds


def pieces_of(kinds, words):
    # A text has blanks of its own, so that it takes all words that are left.
    last = len(kinds) - 1
    if last >= 0 and kinds[last] in KINDS_WITH_BLANKS and len(words) > last:
        return words[:last] + [" ".join(words[last:])]
    return words


def is_house_told_twice(kinds, pieces):
    # What is not written as a number tells no house: it is refused later, and otherwise.
    houses = [piece for kind, piece in zip(kinds, pieces) if kind == "house" and is_number(piece)]
    return len(set(houses)) != len(houses)


def piece_read(kind, piece, net):
    if kind == "net":
        return net_read(piece)
    if kind == "book":
        return book_read(piece)
    if kind == "saying":
        return saying_read(piece, net)
    if kind == "plan":
        return plan_read(piece, net)
    if kind == "door":
        return door_read(piece)
    return number_read(piece)


def refuse_unless_there(kind, thing, net):
    if kind == "house" and thing >= net.many:
        raise NoDoor("the net has no such house")
    if kind == "door" and not net.is_outer(thing):
        raise NoDoor("the net has no such outer door")
    if kind == "address" and not is_address(thing):
        raise NoAddress("an address is a whole number from 0 to 15")


def kept_shown(address):
    return "yes" if address is None else words_shown(["no", address])


def order_shown(told):
    return words_shown(["order"] + told[1]) if told[0] == "order" else "none"


def fault_shown(told):
    return "none" if told is None else words_shown([told[0], door_shown(told[1]), told[2], told[3]])


def with_book(books, house, book):
    return [book if number == house else other for number, other in enumerate(books)]


class Desk:
    def __init__(self):
        self.net = None
        self.old = []
        self.new = []
        self.sayings = []
        self.plan = []
        self.run = None

    def say(self, row):
        words = row.split(" ") if isinstance(row, str) else [""]
        name = name_of(words)
        if name not in ROWS or not self.lets(name):
            raise NoRow("there is no such row, or it is not let now")
        told = words[len(name.split(" ")):]
        kinds = kinds_of(name, len(told))
        pieces = pieces_of(kinds, told)
        if len(pieces) != len(kinds) or is_house_told_twice(kinds, pieces):
            raise NoRow("the row has another count of words, or tells a house twice")
        things = [piece_read(kind, piece, self.net) for kind, piece in zip(kinds, pieces)]
        for kind, thing in zip(kinds, things):
            refuse_unless_there(kind, thing, self.net)
        return self.answer(name, things)

    def lets(self, name):
        if self.net is None:
            return name == "net"
        if name in LET_ONLY_AT_FIRST and (self.run.came > 0 or self.run.place() > 0):
            return False
        return name != "must" or len(self.sayings) < MOST_SAYINGS

    def answer(self, name, things):
        if name == "net" or name in LET_ONLY_AT_FIRST:
            self.change(name, things)
            return "ok"
        if name in ("come", "go", "step"):
            told = self.run.move(tuple([name] + things))
            return str(told) if name == "come" else words_shown(told)
        if name in ("way old", "keep old"):
            return self.answer_of_books(self.old, things)
        if name in ("way new", "keep new"):
            return self.answer_of_books(self.new, things)
        return self.answer_of_all(name, things)

    def change(self, name, things):
        if name == "net":
            empty = [[] for house in range(things[0].many)]
            self.begin(things[0], empty, empty, plain_plan(things[0]))
            self.sayings = []
        elif name == "old":
            self.begin(self.net, with_book(self.old, things[0], things[1]), self.new, self.plan)
        elif name == "new":
            self.begin(self.net, self.old, with_book(self.new, things[0], things[1]), self.plan)
        elif name == "must":
            self.sayings.append(things[0])
        else:
            self.begin(self.net, self.old, self.new, things[0])

    def begin(self, net, old, new, plan):
        # The run goes first: it refuses a book that is none, and then all stays as it was.
        self.run = Run(net, old, new, plan)
        self.net = net
        self.old = old
        self.new = new
        self.plan = plan

    def answer_of_books(self, books, things):
        if len(things) == 1:
            return kept_shown(broken(self.net, books, things[0]))
        return way_shown(way(self.net, books, things[0], things[1]))

    def answer_of_all(self, name, things):
        if name == "order":
            return order_shown(order(self.net, self.old, self.new, self.sayings))
        if name == "fault":
            return fault_shown(fault(self.net, self.old, self.new, self.plan))
        if name == "under":
            return str(len(self.run.under()))
        told = meets(self.net, self.old, self.new, things[2:], things[0], things[1])
        return ", ".join([words_shown(thing) for thing in told])
