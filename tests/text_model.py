"""What DOC.md says of how things are written and read, written a second time by regular expressions, so that tests can
hold the program's answers against it; and texts drawn by a seeded source, right ones and such as are spoilt."""

import re

from run_model import is_plan_of

NUMBER = "(?:0|[1-9][0-9]?[0-9]?)"
DOOR = rf"{NUMBER}\.{NUMBER}"
WIRE = f"{DOOR}-{DOOR}"
PATTERN = "[01x]{4}"
ROW = f"{PATTERN} (?:any|{NUMBER}) (?:drop|{NUMBER})"
STEP = f"(?:wait|(?:teach|turn|forget) {NUMBER})"
START = f"{PATTERN} {DOOR}"
FORMS = {
    # A text of wires alone is one that tells of no houses.
    "net": f"{NUMBER}(?: {NUMBER})*(?: {WIRE})*|{WIRE}(?: {WIRE})*",
    "book": f"-|{ROW}(?:, {ROW})*",
    "plan": f"-|{STEP}(?:, {STEP})*",
    "saying": f"(?:leaves|noring) {START}|comes {START} {DOOR}|(?:by|never) {START} {NUMBER}",
    "door": DOOR,
    "number": NUMBER,
}


def is_of_form(kind, text):
    return re.fullmatch(FORMS[kind], text) is not None


def numbers_in(text):
    return tuple(int(figures) for figures in re.findall("[0-9]+", text))


def net_of(text):
    """The counts and the wires of a text that is of the form."""
    words = text.split(" ")
    counts = [int(word) for word in words if "." not in word]
    wires = [numbers_in(word) for word in words if "." in word]
    return counts, [(wire[:2], wire[2:]) for wire in wires]


def is_net_of(counts, wires):
    doors = {(house, number) for house, count in enumerate(counts) for number in range(count)}
    joined = [door for wire in wires for door in wire]
    within = 1 <= len(counts) <= 6 and all(1 <= count <= 4 for count in counts)
    return within and set(joined) <= doors and len(set(joined)) == len(joined)


def book_of(text):
    rows = [row.split(" ") for row in text.split(", ") if text != "-"]
    return [
        (pattern, None if into == "any" else int(into), None if out == "drop" else int(out))
        for pattern, into, out in rows
    ]


def plan_of(text):
    steps = [step.split(" ") for step in text.split(", ") if text != "-"]
    return [(word, *map(int, house)) for word, *house in steps]


def saying_of_text(text):
    word, pattern, *things = text.split(" ")
    return (word, pattern, *[numbers_in(thing) if "." in thing else int(thing) for thing in things])


def is_saying_of(saying, outer, many):
    word, pattern, door, *more = saying
    if word in ("by", "never"):
        return door in outer and more[0] < many
    return all(one in outer for one in [door, *more])


def read_of(kind, text, net):
    """What is read, or the name of the refusal."""
    if not is_of_form(kind, text):
        return "NoText"
    if kind == "net":
        return net_of(text) if is_net_of(*net_of(text)) else "NoNet"
    if kind == "book":
        return book_of(text)
    if kind == "plan":
        return plan_of(text) if is_plan_of(plan_of(text), net.many) else "NoPlan"
    saying = saying_of_text(text)
    return saying if is_saying_of(saying, net.outer(), net.many) else "NoSaying"


def shown_of(thing):
    """The text of a net's counts and wires, as a tuple, of a saying, as a tuple, or of a book or a plan, as a list."""
    if isinstance(thing, list):
        return ", ".join(map(part_shown, thing)) or "-"
    if isinstance(thing[0], list):
        counts, wires = thing
        return " ".join([*map(str, counts), *["{}.{}-{}.{}".format(*one, *other) for one, other in wires]])
    return " ".join("{}.{}".format(*part) if isinstance(part, tuple) else str(part) for part in thing)


def part_shown(part):
    if len(part) < 3:
        return " ".join(map(str, part))
    pattern, into, out = part
    return f"{pattern} {'any' if into is None else into} {'drop' if out is None else out}"


def spoilt(source, text):
    """A text with one sign or one word more, less or other."""
    if source.random() < 0.6:
        place = source.randint(0, len(text))
        sign = source.choice(" ,.-:0123456789x") if source.random() < 0.8 else ""
        return text[:place] + sign + text[place + source.randint(0, 1):]
    words = text.split(" ")
    place = source.randrange(len(words))
    word = source.choice([words[place], source.choice(words), str(source.randint(0, 1200)), "any", "drop", "wait", "-"])
    words[place:place + source.randint(0, 1)] = source.choice([[], [word], [word]])
    return " ".join(words)
