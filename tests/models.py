"""What several tests share: some rows and wishes, and a hall by numbers, made without the program.

In such a hall each thing has a number, and lies in a drawer that is one of them, or in None. It serves the tests as
something to hold the program's answers against.
"""

SOME = [
    (("box",), None),
    (("desk",), None),
    (("desk", "a"), 1),
    (("desk", "b"), 2),
    (("desk", "tax"), None),
    (("desk", "tax", "y24"), 24),
    (("note",), 7),
]
LETTERS = [((name,), number) for number, name in enumerate("abcdefgh")]


def turn(*paths):
    """Wishes by which each goes to the next one's place, the last one to the first one's."""
    return list(zip(paths, [*paths[1:], paths[0]]))


def pull(*paths):
    """Wishes by which each goes to the next one's place; the last one is no thing's."""
    return list(zip(paths, paths[1:]))


class Model:
    def __init__(self, rows, blind):
        self.blind = blind
        numbers = {path: number for number, (path, _) in enumerate(rows)}
        self.numbers = numbers
        self.marks = [mark for _, mark in rows]
        self.lies = [(numbers.get(path[:-1]), path[-1]) for path, _ in rows]

    def one_place(self, one, other):
        if self.blind:
            return (one[0], one[1].lower()) == (other[0], other[1].lower())
        return one == other

    def path(self, number):
        if number is None:
            return ()
        drawer, name = self.lies[number]
        return self.path(drawer) + (name,)

    def paths(self):
        return [self.path(number) for number in range(len(self.lies))]

    def rows(self):
        return sorted(zip(self.paths(), self.marks), key=lambda row: row[0])

    def takers(self, number, lie):
        """Those that lie there but for the one with that number."""
        return [
            other for other, there in enumerate(self.lies) if other != number and self.one_place(there, lie)
        ]

    def move(self, path, place):
        """Whether a single move was let by, and so made."""
        found = {self.path(number): number for number in range(len(self.lies))}
        number = found.get(path)
        if number is None:
            return False
        drawer = found.get(place[:-1])
        if place[:-1] and (drawer is None or self.marks[drawer] is not None):
            return False
        if self.marks[number] is None and drawer != self.lies[number][0]:
            return False
        lie = (drawer, place[-1])
        if lie == self.lies[number] or self.takers(number, lie):
            return False
        self.lies[number] = lie
        return True

    def wish(self, wishes):
        """Where each lies when all wishes are done at once."""
        lies = list(self.lies)
        for path, place in wishes:
            lies[self.numbers[path]] = (self.numbers.get(place[:-1]), place[-1])
        return lies

    def rings_and_chains(self, wishes):
        """Both, with things by their paths, found by going from each thing that moves."""
        lies = self.wish(wishes)
        moving = [number for number in range(len(lies)) if lies[number] != self.lies[number]]
        ahead = {}
        for number in moving:
            for other in self.takers(number, lies[number]):
                ahead[number] = other
        rings = set()
        chains = []
        for number in moving:
            seen = [number]
            while ahead.get(seen[-1], seen[0]) not in seen:
                seen.append(ahead[seen[-1]])
            paths = [self.path(one) for one in seen]
            if ahead.get(seen[-1]) == number:
                least = paths.index(min(paths))
                rings.add(tuple(paths[least:] + paths[:least]))
            elif number not in ahead.values():
                chains.append(paths)
        return sorted(list(ring) for ring in rings), sorted(chains)


def some_rows(chance, blind, many, names="abcABC", depth=3):
    """Rows of at most so many things, with names that often come twice."""
    rows = []
    for _ in range(many):
        drawers = [(), *[path for path, mark in rows if mark is None and len(path) < depth]]
        path = chance.choice(drawers) + (chance.choice(names),)
        model = Model(rows, blind)
        if not model.takers(None, (model.numbers.get(path[:-1]), path[-1])):
            rows.append((path, chance.choice([None, 1, 2])))
    chance.shuffle(rows)
    return rows


def some_moves(chance, rows, blind, tries, names="abcABC"):
    """A row of moves that are let by, one after another, and the hall behind them."""
    model = Model(rows, blind)
    row = []
    for _ in range(tries):
        number = chance.randrange(len(rows))
        drawers = [None, *[one for one, mark in enumerate(model.marks) if mark is None]]
        drawer = model.lies[number][0] if model.marks[number] is None else chance.choice(drawers)
        path = model.path(number)
        place = model.path(drawer) + (chance.choice(names),)
        if len(place) <= 6 and model.move(path, place):
            row.append((path, place))
    return row, model


def some_wishes(chance, rows, blind, tries=40, names="abcABC"):
    """Wishes that are let by: where moves one after another led to, wished for at once."""
    _, then = some_moves(chance, rows, blind, tries, names)
    first = Model(rows, blind)
    wishes = []
    for number, (path, _) in enumerate(rows):
        drawer, name = then.lies[number]
        if then.lies[number] != first.lies[number] or chance.random() < 0.3:
            wishes.append((path, first.path(drawer) + (name,)))
    chance.shuffle(wishes)
    return wishes
