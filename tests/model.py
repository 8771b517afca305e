"""What DOC.md says of books, ways, sayings, sets and papers, written a second time and in another manner, so that
tests can hold the program's answers against it; and right nets, books, sayings and papers drawn by a seeded source."""

import itertools


class Stubborn:
    """A thing that can neither be compared nor be a key nor be counted."""

    __hash__ = None

    def __eq__(self, other):
        raise RuntimeError("not to be compared")

    def __bool__(self):
        raise RuntimeError("no truth")

    def __len__(self):
        raise RuntimeError("no length")


# What is none of the things that the program takes, whatever it is asked for.
ANYTHING = [
    None, True, False, -1, 16, 10 ** 400, -10 ** 400, 0.5, 1j, "", "0", "0.0", "xxx", "comes", b"xxxx", object(), len,
    str, (), (None,), ((),), ([],), {}, {0: []}, {"xxxx": 1}, set(), {0}, frozenset(), range(2), iter([]), ValueError(),
    Stubborn(), (Stubborn(),), (Stubborn(), Stubborn(), Stubborn()),
]


def suits(pattern, address):
    return all(sign == "x" or sign == figure for sign, figure in zip(pattern, f"{address:04b}"))


def step(net, books, door, address):
    """The next door, or the end."""
    house, number = door
    rows = [row for row in books[house] if suits(row[0], address) and row[1] in (None, number)]
    if not rows or rows[0][2] is None:
        return ("drop", house)
    gone = (house, rows[0][2])
    for first, second in net.wires():
        if gone in (first, second):
            return second if gone == first else first
    return ("out", *gone)


def way_of(net, books, door, address):
    places = {}
    while door not in places:
        places[door] = len(places)
        further = step(net, books, door, address)
        if isinstance(further[0], str):
            return (list(places), further)
        door = further
    return (list(places), ("ring", places[door]))


def is_so_by(saying, doors, end):
    """Whether it is so of a letter with this way and this end."""
    word, pattern, door, *more = saying
    houses = {house for house, number in doors}
    return {
        "comes": lambda: end == ("out", *more[0]),
        "leaves": lambda: end[0] == "out",
        "noring": lambda: end[0] in ("out", "drop"),
        "by": lambda: more[0] in houses,
        "never": lambda: more[0] not in houses,
    }[word]()


def is_so(net, books, saying, address):
    return is_so_by(saying, *way_of(net, books, saying[2], address))


def broken_of(net, books, saying):
    against = [address for address in range(16) if suits(saying[1], address) and not is_so(net, books, saying, address)]
    return min(against, default=None)


def mixed_of(old, new, houses):
    books = dict(enumerate(old))
    books.update({house: new[house] for house in houses})
    return [books[house] for house in sorted(books)]


def changers_of(old, new):
    return [house for house, (one, other) in enumerate(zip(old, new)) if one != other]


def keeps_all(net, old, new, sayings, houses):
    return all(broken_of(net, mixed_of(old, new, houses), saying) is None for saying in sayings)


def orders_of(net, old, new, sayings):
    """All orders, each way of ordering the changers being tried."""
    changing = changers_of(old, new)
    safe = {
        frozenset(houses): keeps_all(net, old, new, sayings, houses)
        for size in range(len(changing) + 1) for houses in itertools.combinations(changing, size)
    }
    return [
        list(tried) for tried in itertools.permutations(changing)
        if all(safe[frozenset(tried[:size])] for size in range(len(tried) + 1))
    ]


def line_fault(net, old, new, sayings, line, sets):
    """Why a line of a paper is wrong, the sets of all its lines being given, or None."""
    changing = changers_of(old, new)
    if type(line) is not tuple or len(line) != 2:
        return "no tuple of two"
    houses, told = line
    if type(houses) is not list or any(type(house) is not int for house in houses):
        return "no list of houses"
    if houses != sorted(set(houses)) or not set(houses) <= set(changing):
        return "no rising list of changers, each once"
    if type(told) is not tuple or not told or type(told[0]) is not str:
        return "no tuple of a word told"
    if len(told) == 1 and told[0] == "safe":
        if houses == changing:
            return "all changers, and safe"
        missing = [house for house in changing if house not in houses and sorted(houses + [house]) not in sets]
        return f"no line for what comes next: {missing}" if missing else None
    if len(told) != 3 or told[0] != "bad" or [type(part) for part in told[1:]] != [int, int]:
        return "neither safe nor bad"
    if not 0 <= told[1] < len(sayings):
        return "no such saying"
    saying, address = sayings[told[1]], told[2]
    if not 0 <= address <= 15 or not suits(saying[1], address):
        return "another address"
    if is_so(net, mixed_of(old, new, houses), saying, address):
        return "the saying is so of this address"
    return None


def paper_fault(net, old, new, sayings, paper):
    """Why a paper is wrong, or None, looked through line by line as point 13 has it."""
    if type(paper) is not list or not all(type(line) is tuple and line for line in paper):
        return "no list of tuples"
    sets = [line[0] for line in paper]
    if any(type(houses) is not list or any(type(house) is not int for house in houses) for houses in sets):
        return "no list of houses"
    if any(sets.count(houses) > 1 for houses in sets):
        return "two lines with the same set"
    if [] not in sets:
        return "no line with the set without houses"
    for line in paper:
        fault = line_fault(net, old, new, sayings, line, sets)
        if fault is not None:
            return (line, fault)
    return None


def drawn_net(source, net_class, most_houses=6):
    counts = [source.randint(1, 4) for house in range(source.randint(1, most_houses))]
    doors = [(house, number) for house, count in enumerate(counts) for number in range(count)]
    source.shuffle(doors)
    # One door at least is left, so that there is an outer one.
    pairs = source.randint(0, (len(doors) - 1) // 2)
    return net_class(counts, [(doors[2 * place], doors[2 * place + 1]) for place in range(pairs)])


def drawn_pattern(source, wide=0.6):
    return "".join("x" if source.random() < wide else source.choice("01") for place in range(4))


def drawn_book(source, count, most_rows=12):
    numbers = list(range(count))
    return [
        (drawn_pattern(source), source.choice([None] + numbers), source.choice(numbers * 3 + [None]))
        for row in range(source.randint(0, most_rows))
    ]


def drawn_books(source, net, most_rows=12):
    return [drawn_book(source, net.count(house), most_rows) for house in range(net.many)]


def drawn_saying(source, net):
    word = source.choice(["comes", "leaves", "noring", "by", "never"])
    start = (word, drawn_pattern(source), source.choice(net.outer()))
    if word == "comes":
        return (*start, source.choice(net.outer()))
    if word in ("by", "never"):
        return (*start, source.randrange(net.many))
    return start


def drawn_case(source, net_class, most_houses, change=0.75):
    """A net, old books, new books and sayings."""
    net = drawn_net(source, net_class, most_houses)
    old = drawn_books(source, net, source.choice([2, 4]))
    new = [
        drawn_book(source, net.count(house), 4) if source.random() < change else list(book)
        for house, book in enumerate(old)
    ]
    return net, old, new, [drawn_saying(source, net) for count in range(source.choice([0, 1, 1, 2, 3, 8]))]


def bad_lines(net, old, new, sayings, houses):
    """Every bad line that this set may have in a right paper."""
    books = mixed_of(old, new, houses)
    return [
        (sorted(houses), ("bad", number, address))
        for number, saying in enumerate(sayings) for address in range(16)
        if suits(saying[1], address) and not is_so(net, books, saying, address)
    ]


def drawn_paper(source, net, old, new, sayings, safely=0.3):
    """A right paper, written in one of the many manners in which it may be, or None where there is none so far as
    this drawing comes: a set that is not safe is now and then told safe, where it is not that of all changers."""
    changing = changers_of(old, new)
    paper, waiting = {}, [()]
    while waiting:
        houses = waiting.pop()
        if houses in paper:
            continue
        bad = bad_lines(net, old, new, sayings, houses)
        further = [tuple(sorted((*houses, house))) for house in changing if house not in houses]
        if bad and (not further or source.random() >= safely):
            paper[houses] = source.choice(bad)
        elif further:
            paper[houses] = (list(houses), ("safe",))
            waiting += further
        else:
            return None
    lines = list(paper.values())
    source.shuffle(lines)
    return lines
