"""How nets, books, plans, ways and sayings are written, and how they are read."""

from nohalfway.errors import NoPlan, NoSaying, NoText
from nohalfway.nets import Net
from nohalfway.patterns import is_pattern
from nohalfway.plans import WAIT, is_plan
from nohalfway.sayings import is_saying

FIGURES = "0123456789"
MOST_FIGURES = 3
NONE_LISTED = "-"
ANY_DOOR = "any"
DROPPED = "drop"


def words_shown(things):
    return " ".join([str(thing) for thing in things])


def door_shown(door):
    return str(door[0]) + "." + str(door[1])


def wire_shown(wire):
    return door_shown(wire[0]) + "-" + door_shown(wire[1])


def row_shown(row):
    came_in = ANY_DOOR if row[1] is None else row[1]
    goes_out = DROPPED if row[2] is None else row[2]
    return words_shown([row[0], came_in, goes_out])


def list_shown(texts):
    return ", ".join(texts) if texts != [] else NONE_LISTED


def net_shown(net):
    counts = [net.count(house) for house in range(net.many)]
    return words_shown(counts + [wire_shown(wire) for wire in net.wires()])


def book_shown(book):
    return list_shown([row_shown(row) for row in book])


def plan_shown(plan):
    return list_shown([words_shown(step) for step in plan])


def way_shown(told):
    return words_shown([door_shown(door) for door in told[0]] + [":"] + list(told[1]))


def saying_shown(saying):
    return words_shown([door_shown(thing) if isinstance(thing, tuple) else thing for thing in saying])


def parted(text, between):
    if not isinstance(text, str):
        raise NoText("only a text is read")
    return text.split(between)


def is_number(text):
    if not 1 <= len(text) <= MOST_FIGURES or not all([sign in FIGURES for sign in text]):
        return False
    return text == "0" or text[0] != "0"


def number_read(text):
    if not is_number(text):
        raise NoText("a number is written by one to three figures, without a nought ahead")
    return int(text)


def number_or_none_read(text, word):
    return None if text == word else number_read(text)


def pattern_read(text):
    if not is_pattern(text):
        raise NoText("a pattern is written by four signs 0, 1, x")
    return text


def pair_read(text, between, read):
    pair = parted(text, between)
    if len(pair) != 2:
        raise NoText("a door is written H.D, a wire H.D-H.D")
    return (read(pair[0]), read(pair[1]))


def door_read(text):
    return pair_read(text, ".", number_read)


def wire_read(text):
    return pair_read(text, "-", door_read)


def list_read(text, read):
    if text == NONE_LISTED:
        return []
    return [read(part) for part in parted(text, ", ")]


def net_read(text):
    words = parted(text, " ")
    many = 0
    while many < len(words) and is_number(words[many]):
        many += 1
    return Net([number_read(word) for word in words[:many]], [wire_read(word) for word in words[many:]])


def row_read(text):
    words = parted(text, " ")
    if len(words) != 3:
        raise NoText("a row is written by a pattern, an in door and an out door")
    return (pattern_read(words[0]), number_or_none_read(words[1], ANY_DOOR), number_or_none_read(words[2], DROPPED))


def book_read(text):
    return list_read(text, row_read)


def step_read(text):
    words = parted(text, " ")
    if words == list(WAIT):
        return WAIT
    if len(words) != 2 or words[0] not in ("teach", "turn", "forget"):
        raise NoText("a step is written by its word and its house")
    return (words[0], number_read(words[1]))


def plan_read(text, net):
    plan = list_read(text, step_read)
    if not is_plan(plan, net):
        raise NoPlan("a plan has at most forty steps, each but a wait once, of houses of the net")
    return plan


SAYING_READS = {
    "comes": (pattern_read, door_read, door_read),
    "leaves": (pattern_read, door_read),
    "noring": (pattern_read, door_read),
    "by": (pattern_read, door_read, number_read),
    "never": (pattern_read, door_read, number_read),
}


def saying_read(text, net):
    words = parted(text, " ")
    if words[0] not in SAYING_READS or len(words) - 1 != len(SAYING_READS[words[0]]):
        raise NoText("a saying is written by its word and as many things as the word asks for")
    things = [read(word) for read, word in zip(SAYING_READS[words[0]], words[1:])]
    saying = tuple([words[0]] + things)
    if not is_saying(saying, net):
        raise NoSaying("a saying is of outer doors and houses of the net")
    return saying
