"""What DOC.md says of weavings, of what a letter may meet and of leadings, written a second time and in another
manner, so that tests can hold the program's answers against it; and rows and books drawn by a seeded source."""

from model import drawn_book, drawn_net, drawn_pattern, mixed_of, step, suits


def is_end(further):
    return isinstance(further[0], str)


def weavings_of(net, old, new, row, door, address):
    """Every weaving as a tuple (doors, numbers, what the last number leads to). Left out are those in which a door
    stands twice beside the same number: behind it the letter may do only what it might have done the first time."""
    books = [mixed_of(old, new, row[:count]) for count in range(len(row) + 1)]

    def longer(doors, numbers):
        for number in range(numbers[-1] if numbers else 0, len(books)):
            if (doors[-1], number) in zip(doors, numbers):
                continue
            further = step(net, books[number], doors[-1], address)
            yield doors, numbers + [number], further
            if not is_end(further):
                yield from longer(doors + [further], numbers + [number])

    return longer([door], [])


def goes_round(doors, numbers, further):
    """Whether the last number leads to a door where it was, at a place from which on all numbers are the same."""
    return any(door == further and len(set(numbers[place:])) == 1 for place, door in enumerate(doors))


def met_by(doors, numbers, further):
    """All that a weaving leads to with its last place or its last number."""
    things = [("at", doors[-1][0])]
    if is_end(further):
        things.append(further)
    if goes_round(doors, numbers, further):
        things.append(("ring",))
    return things


def meets_of(net, old, new, row, door, address):
    things = set()
    for weaving in weavings_of(net, old, new, row, door, address):
        things.update(met_by(*weaving))
    return sorted(things)


def is_against(saying, doors, things):
    """Whether one of the things, met by a weaving with these doors, is against the saying."""
    word, *more = saying
    ends = [thing for thing in things if thing[0] != "at"]
    if word == "comes":
        return any(end != ("out", *more[2]) for end in ends)
    if word == "leaves":
        return any(end[0] in ("drop", "ring") for end in ends)
    if word == "noring":
        return ("ring",) in ends
    if word == "never":
        return ("at", more[2]) in things
    return bool(ends) and more[2] not in [house for house, number in doors]


def broken_throughout_of(net, old, new, row, saying):
    for address in range(16):
        if suits(saying[1], address):
            for weaving in weavings_of(net, old, new, row, saying[2], address):
                if is_against(saying, weaving[0], met_by(*weaving)):
                    return address
    return None


def leading_fault(net, old, new, row, door, address, goal, told):
    """Why what is told is no leading to the goal, or None."""
    if type(told) is not list or not told or any(type(number) is not int for number in told):
        return "no list of whole numbers"
    if told != sorted(told) or told[0] < 0 or told[-1] > len(row):
        return "it falls, or goes beyond the row"
    doors, further = [], door
    for number in told:
        if is_end(further):
            return "longer than the way"
        doors.append(further)
        further = step(net, mixed_of(old, new, row[:number]), further, address)
    if goal not in met_by(doors, told, further):
        return f"it leads to {met_by(doors, told, further)}"
    # The place is to be the first one at that door, which is the narrowest of what the words may mean.
    if goal == ("ring",) and len(set(told[doors.index(further):])) != 1:
        return "not the same numbers from the first time on"
    return None


def drawn_flow(source, count):
    """A book by which hardly a letter is dropped, so that ways are long and rings are many."""
    rows = [(drawn_pattern(source, 0.4), source.choice([None, *range(count)]), source.choice([None, *range(count)]))
            for row in range(source.choice([0, 0, 1]))]
    # Mostly on by another door than the one that it came in by.
    return rows + [
        ("xxxx", number, (number + source.randint(0 if source.random() < 0.1 else 1, max(count - 1, 1))) % count)
        for number in range(count)
    ]


def drawn_dense_net(source, net_class, most_houses):
    """A net with few outer doors, so that letters stay long within it."""
    counts = [source.randint(2, 4) for house in range(source.randint(2, most_houses))]
    doors = [(house, number) for house, count in enumerate(counts) for number in range(count)]
    source.shuffle(doors)
    outer = 2 + len(doors) % 2 if source.random() < 0.7 else 1 + (len(doors) + 1) % 2
    pairs = (len(doors) - outer) // 2
    return net_class(counts, [(doors[2 * place], doors[2 * place + 1]) for place in range(pairs)])


def drawn_change(source, net_class, most_houses, flowing=0.9):
    """A net, old books, new books and a row."""
    draw = source.choice([drawn_net, drawn_dense_net, drawn_dense_net])
    net = draw(source, net_class, most_houses)
    counts = [net.count(house) for house in range(net.many)]
    old, new = [
        [drawn_flow(source, count) if source.random() < flowing else drawn_book(source, count, 3) for count in counts]
        for both in range(2)
    ]
    return net, old, new, drawn_row(source, net.many)


def drawn_row(source, many):
    return source.sample(range(many), source.randint(0, many))
