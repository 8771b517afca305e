"""What DOC.md says of plans, their faults and runs, written a second time and in another manner, so that tests can
hold the program's answers against it; and plans and moves drawn by a seeded source."""

import itertools

from model import step, way_of

WAIT = ("wait",)


def is_plan_of(thing, many):
    if type(thing) is not list or len(thing) > 40:
        return False
    seen = []
    for part in thing:
        if type(part) is not tuple or not part or type(part[0]) is not str:
            return False
        if part[0] == "wait" and len(part) == 1:
            continue
        if part[0] not in ("teach", "turn", "forget") or len(part) != 2 or type(part[1]) is not int:
            return False
        if not 0 <= part[1] < many or part in seen:
            return False
        seen.append(part)
    return True


def faults_of(net, old, new, plan):
    """All faults of a plan; every step, outer door and address is looked at."""
    found = []
    for door, address in itertools.product(net.outer(), range(16)):
        by_old = {house for house, number in way_of(net, old, door, address)[0]}
        by_new = [house for house, number in way_of(net, new, door, address)[0]]
        turn = plan.index(("turn", door[0])) if ("turn", door[0]) in plan else len(plan)
        for k, (word, *houses) in enumerate(plan):
            if k == turn:
                taught = {part[1] for part in plan[:k] if part[0] == "teach"}
                missing = [house for house in by_new if house not in taught]
                found += [(k, door, address, house) for house in missing[:1]]
            if word == "forget" and houses[0] in by_old and WAIT not in plan[turn:k]:
                found.append((k, door, address, houses[0]))
    return found


def fault_of(net, old, new, plan):
    return min(faults_of(net, old, new, plan), default=None)


def losses_of(net, old, new, plan):
    """Each (door, address) of a letter that some run of the plan loses. All that a letter and the steps may do is
    tried out; other letters could only hold up a wait, so one letter alone is enough."""
    lost = set()
    for door, address, start in itertools.product(net.outer(), range(16), range(len(plan) + 1)):
        mark = ("turn", door[0]) in plan[:start]
        seen, waiting = set(), [(start, door)]
        while waiting:
            state = waiting.pop()
            if state in seen:
                continue
            seen.add(state)
            k, at = state
            known = ("teach", at[0]) in plan[:k] if mark else ("forget", at[0]) not in plan[:k]
            if not known:
                lost.add((door, address))
                break
            further = step(net, new if mark else old, at, address)
            if not isinstance(further[0], str):
                waiting.append((k, further))
            if k < len(plan) and (mark or plan[k] != WAIT):
                waiting.append((k + 1, at))
    return lost


class RunOf:
    """A run: the books that each house knows are kept beside the houses, and letters that are at their end stay."""

    def __init__(self, net, old, new, plan):
        self.net, self.new, self.left, self.done = net, dict(enumerate(new)), list(plan), 0
        self.known = [dict(enumerate(old)), {}]
        self.turned = set()
        self.letters = []
        self.ends = []

    def under(self):
        return [
            (number, letter["mark"], letter["address"], *letter["way"][-1])
            for number, letter in enumerate(self.letters) if letter["end"] is None
        ]

    def journal(self):
        return [
            (number, *[self.letters[number][name] for name in ("mark", "door", "address", "way", "end")])
            for number in self.ends
        ]

    def may(self):
        moves = [("go", number) for number, *more in self.under()]
        held = self.left[:1] == [WAIT] and any(mark == 0 for number, mark, *more in self.under())
        return moves if held or not self.left else moves + [("step",)]

    def may_be(self, move):
        if move[0] != "come":
            return move in self.may()
        return move[1] in self.net.outer() and move[2] in range(16)

    def move(self, move):
        if move[0] == "come":
            mark = int(move[1][0] in self.turned)
            self.letters.append({"mark": mark, "door": move[1], "address": move[2], "way": [move[1]], "end": None})
            return len(self.letters) - 1
        return self.go(move[1]) if move[0] == "go" else self.step()

    def go(self, number):
        letter = self.letters[number]
        books, at = self.known[letter["mark"]], letter["way"][-1]
        further = step(self.net, books, at, letter["address"]) if at[0] in books else ("lost", at[0])
        if isinstance(further[0], str):
            letter["end"] = further
            self.ends.append(number)
            return further
        letter["way"] = letter["way"] + [further]
        return ("at", *further)

    def step(self):
        word, *houses = done = self.left.pop(0)
        self.done += 1
        for house in houses:
            if word == "teach":
                self.known[1][house] = self.new[house]
            elif word == "turn":
                self.turned.add(house)
            else:
                del self.known[0][house]
        return done


def drawn_plan(source, many, mixing=0.15, most_waits=3):
    """A plan that is like the plain one, but with steps out of their places, left out, and more waits."""
    parts = [(place + source.gauss(0, mixing * 4), (word, house))
             for place, word in enumerate(["teach", "turn", "forget"], start=1)
             for house in range(many) if source.random() > mixing / 2]
    parts += [(source.uniform(1, 3.2), WAIT) for count in range(source.randint(0, most_waits))]
    parts += [(2.5, WAIT)] if source.random() > mixing else []
    return [part for place, part in sorted(parts)]


def drawn_move(source, net, came, steps=0.25, comes=0.3):
    """A move, which may perhaps not be."""
    chance = source.random()
    if chance < steps:
        return ("step",)
    if chance < steps + comes or not came:
        return ("come", source.choice(net.outer()), source.randrange(16))
    return ("go", source.randint(0, came - 1))
