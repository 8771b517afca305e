"""What DOC.md says of the desk, written a second time over the other second writings, so that tests can hold the
program's answers against it; and rows drawn by a seeded source, right ones and such as are spoilt."""

import re

from meet_model import drawn_flow, drawn_row, meets_of
from model import broken_of, drawn_book, drawn_net, drawn_saying, orders_of, way_of
from nohalfway.nets import Net
from run_model import RunOf, drawn_plan, fault_of
from text_model import NUMBER, is_of_form, numbers_in, read_of, shown_of, spoilt

# What stands for a text takes all that is left of a row; what stands for a word has no blank.
SHAPES = {
    "net": "net (?P<net>.*)",
    "book": "(?P<side>old|new) (?P<house>[^ ]*) (?P<book>.*)",
    "must": "must (?P<saying>.*)",
    "plan": "plan (?P<plan>.*)",
    "way": "way (?P<side>old|new) (?P<door>[^ ]*) (?P<address>[^ ]*)",
    "keep": "keep (?P<side>old|new) (?P<saying>.*)",
    "order": "order",
    "fault": "fault",
    "come": "come (?P<door>[^ ]*) (?P<address>[^ ]*)",
    "go": "go (?P<number>[^ ]*)",
    "step": "step",
    "under": "under",
    "meet": "meet (?P<door>[^ ]*) (?P<address>[^ ]*)(?P<row>(?: [^ ]*)*)",
}
FORM_OF = {"house": "number", "address": "number"}


class Refused(Exception):
    pass


def refuse_where(due, name):
    if due:
        raise Refused(name)


def shape_of(row):
    for name, shape in SHAPES.items():
        match = re.fullmatch(shape, row, re.DOTALL)
        if match:
            return name, match.groupdict()
    raise Refused("NoRow")


class DeskOf:
    def __init__(self):
        self.net = None

    def say(self, row):
        """The answer, or the name of the refusal, told apart by a sign ahead of it."""
        try:
            name, parts = shape_of(row)
            self.refuse_row(name, parts)
            self.refuse_parts(parts)
            return "= " + getattr(self, "say_" + name)(**parts)
        except Refused as refused:
            return "! " + refused.args[0]

    def refuse_row(self, name, parts):
        refuse_where(self.net is None and name != "net", "NoRow")
        refuse_where(name in ("book", "must", "plan") and (self.run.letters or self.run.done), "NoRow")
        refuse_where(name == "must" and len(self.sayings) == 8, "NoRow")
        houses = [word for word in parts.get("row", "").split(" ") if re.fullmatch(NUMBER, word)]
        refuse_where(any(houses.count(house) > 1 for house in houses), "NoRow")

    def refuse_parts(self, parts):
        words = [(kind, part) for kind, part in parts.items() if kind not in ("side", "row")]
        words += [("house", word) for word in parts.get("row", "").split(" ")[1:]]
        for kind, part in words:
            refuse_where(not is_of_form(FORM_OF.get(kind, kind), part), "NoText")
        for kind, part in words:
            refuse_where(kind == "house" and int(part) >= self.net.many, "NoDoor")
            refuse_where(kind == "door" and numbers_in(part) not in self.net.outer(), "NoDoor")
            refuse_where(kind == "address" and int(part) > 15, "NoAddress")

    def read(self, kind, text):
        told = read_of(kind, text, self.net)
        refuse_where(isinstance(told, str), told)
        return told

    def begin(self):
        self.run = RunOf(self.net, *self.books.values(), self.plan)

    def say_net(self, net):
        self.net = Net(*self.read("net", net))
        houses = range(self.net.many)
        self.books = {"old": [[] for house in houses], "new": [[] for house in houses]}
        self.sayings = []
        words = [(word, house) for word in ("teach", "turn", "forget") for house in houses]
        self.plan = words[:2 * self.net.many] + [("wait",)] + words[2 * self.net.many:]
        self.begin()
        return "ok"

    def say_book(self, side, house, book):
        rows = self.read("book", book)
        doors = [None, *range(self.net.count(int(house)))]
        refuse_where(len(rows) > 12 or any({into, out} - set(doors) for pattern, into, out in rows), "NoBooks")
        self.books[side][int(house)] = rows
        self.begin()
        return "ok"

    def say_must(self, saying):
        self.sayings.append(self.read("saying", saying))
        return "ok"

    def say_plan(self, plan):
        self.plan = self.read("plan", plan)
        self.begin()
        return "ok"

    def say_way(self, side, door, address):
        doors, end = way_of(self.net, self.books[side], numbers_in(door), int(address))
        return shown_of((*doors, ":", *end))

    def say_keep(self, side, saying):
        against = broken_of(self.net, self.books[side], self.read("saying", saying))
        return "yes" if against is None else f"no {against}"

    def say_order(self):
        orders = orders_of(self.net, *self.books.values(), self.sayings)
        return shown_of(("order", *min(orders))) if orders else "none"

    def say_fault(self):
        return shown_of(fault_of(self.net, *self.books.values(), self.plan) or ("none",))

    def say_come(self, door, address):
        return str(self.run.move(("come", numbers_in(door), int(address))))

    def say_go(self, number):
        return self.moved(("go", int(number)))

    def say_step(self):
        return self.moved(("step",))

    def moved(self, move):
        refuse_where(not self.run.may_be(move), "NoMove")
        return shown_of(self.run.move(move))

    def say_under(self):
        return str(len(self.run.under()))

    def say_meet(self, door, address, row):
        told = meets_of(self.net, *self.books.values(), list(numbers_in(row)), numbers_in(door), int(address))
        return ", ".join(map(shown_of, told))


def drawn_letter(source, net):
    door = source.choice(net.outer())
    return f"{door[0]}.{door[1]} {source.randint(0, 15)}"


def drawn_right_row(source, net, came):
    """A row that mostly is right for a desk with this net, at which so many letters came."""
    if not net.outer():
        net = drawn_net(source, Net, 4)
    side, house = source.choice(["old", "new"]), source.randrange(net.many)
    draw = {
        side: lambda: f"{side} {house} {shown_of(source.choice([drawn_book, drawn_flow])(source, net.count(house)))}",
        "must": lambda: f"must {shown_of(drawn_saying(source, net))}",
        "plan": lambda: f"plan {shown_of(drawn_plan(source, net.many))}",
        "way": lambda: f"way {side} {drawn_letter(source, net)}",
        "keep": lambda: f"keep {side} {shown_of(drawn_saying(source, net))}",
        "order": lambda: "order",
        "fault": lambda: "fault",
        "come": lambda: f"come {drawn_letter(source, net)}",
        "go": lambda: f"go {source.randint(0, max(came, 1))}",
        "step": lambda: "step",
        "under": lambda: "under",
        "meet": lambda: shown_of(("meet", drawn_letter(source, net), *drawn_row(source, net.many))),
    }
    if source.random() < 0.03:
        return net_row(drawn_net(source, Net, 4))
    return draw[source.choice([*draw] + [side] * 3 + ["go"] * 2)]()


def net_row(net):
    return "net " + shown_of(([net.count(house) for house in range(net.many)], net.wires()))


def drawn_wrong_row(source, net, came):
    """A row that is spoilt, has a number changed, or is one for another net."""
    if source.random() < 0.4:
        return drawn_right_row(source, drawn_net(source, Net), came)
    row = drawn_right_row(source, net, came)
    if source.random() < 0.4:
        words = re.split("([0-9]+)", row)
        place = source.randrange(len(words))
        return "".join(words[:place] + [source.choice(["0", "3", "7", "16", words[place]])] + words[place + 1:])
    for time in range(source.choice([1, 1, 2])):
        row = spoilt(source, row)
    return row
