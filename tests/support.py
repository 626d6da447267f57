"""What several tests need: words, machines, values of every kind, and plain definitions.

Nothing here is taken from the program but the class Machine and the errors. Plain is a
machine worked out from its table alone, by the words of the document.
"""

import random

from saidacross.machines import Machine


def words_up_to(letters, longest):
    """All words of at most so many letters, in the order of strings."""
    level = [""]
    found = [""]
    for _ in range(longest):
        level = [word + letter for word in level for letter in letters]
        found.extend(level)
    return found


def in_order(strings):
    """The strings, sorted by length and then as Python orders them."""
    return sorted(strings, key=lambda word: (len(word), word))


def lots(letters):
    """All lots, in the order of strings."""
    found = []
    for mask in range(1, 2 ** len(letters)):
        found.append("".join(x for at, x in enumerate(letters) if mask >> at & 1))
    return in_order(found)


def drawn_word(source, letters, longest):
    return "".join(source.choice(letters) for _ in range(source.randint(0, longest)))


def drawn_machine(source, letters=None, states=None):
    """A machine with drawn parts; some letters exchange states, some lead to few states."""
    letters = letters or "abcd"[:source.randint(1, 4)]
    many = states or source.randint(1, 6)
    columns = []
    for _ in letters:
        style = source.randrange(4)
        column = list(range(many))
        if style == 0:
            source.shuffle(column)
        elif style == 1:
            few = source.sample(column, min(many, 2))
            column = [source.choice(few) for _ in column]
        elif style == 2:
            column[source.randrange(many)] = source.randrange(many)
        else:
            column = [source.randrange(many) for _ in column]
        columns.append(column)
    table = tuple(zip(*columns))
    accepts = tuple(state for state in range(many) if source.random() < 0.5)
    return Machine(letters, table, accepts)


def drawn_machines(seed, many, most_deeds=100):
    """So many drawn machines with at most so many deeds, none of them with one state alone."""
    source = random.Random(seed)
    found = []
    while len(found) < many:
        machine = drawn_machine(source)
        if len(Plain(machine).table) > 1 and Plain(machine).deeds(most_deeds) is not None:
            found.append(machine)
    return found


def exchanging(source):
    """A machine each of whose letters exchanges states."""
    letters = "abc"[:source.randint(2, 3)]
    many = source.randint(3, 4)
    columns = [source.sample(range(many), many) for _ in letters]
    accepts = tuple(s for s in range(many) if source.random() < 0.5)
    return Machine(letters, tuple(zip(*columns)), accepts)


def signed(source):
    """A machine each of whose letters leads to two of its states, by two signs."""
    letters = "abc"[:source.randint(2, 3)]
    pairs = [source.randrange(3) for _ in letters]
    columns = []
    for pair in pairs:
        signs = [source.randrange(2) for _ in range(3)]
        columns.append([2 * pair + (state + signs[state // 2]) % 2 for state in range(6)])
    accepts = tuple(s for s in range(6) if source.random() < 0.5)
    return Machine(letters, tuple(zip(*columns)), accepts)


def every_machine(letters, states):
    """Each machine with these letters and so many states."""
    rows = [()]
    for _ in range(states * len(letters)):
        rows = [row + (state,) for row in rows for state in range(states)]
    for row in rows:
        table = tuple(row[at:at + len(letters)] for at in range(0, len(row), len(letters)))
        for mask in range(2 ** states):
            yield Machine(letters, table, tuple(s for s in range(states) if mask >> s & 1))


def walk(machine, word, state=0):
    """The state to which the word leads by the table of the machine."""
    for letter in word:
        state = machine.table()[state][list(machine.letters()).index(letter)]
    return state


def plainly_says(machine, word):
    return walk(machine, word) in machine.accepts()


def kept(method):
    """The method, but what it told of the same arguments is told again."""

    def tell(self, *arguments):
        key = (method.__name__,) + arguments
        if key not in self.told:
            self.told[key] = method(self, *arguments)
        return self.told[key]

    return tell


class Plain:
    """A machine of a few states and all that the document says of it, by its definitions."""

    def __init__(self, machine):
        self.letters = machine.letters()
        self.table, self.accepts = _fewest(machine)
        self.told = {}

    def deed(self, word):
        ends = []
        for state in range(len(self.table)):
            for letter in word:
                state = self.table[state][self.letters.index(letter)]
            ends.append(state)
        return tuple(ends)

    @staticmethod
    def then(*deeds):
        ends = deeds[0]
        for deed in deeds[1:]:
            ends = tuple(deed[state] for state in ends)
        return ends

    def steady(self, deed):
        return self.then(deed, deed) == deed

    @kept
    def deeds(self, most=100):
        """The list of (first word, deed), or None if there are more than so many."""
        first = {}
        level = [""]
        while level and len(first) <= most:
            fresh = []
            for word in level:
                if self.deed(word) not in first:
                    first[self.deed(word)] = word
                    fresh.append(word)
            level = [word + letter for word in fresh for letter in self.letters]
        return [(first[deed], deed) for deed in first] if len(first) <= most else None

    def listed(self, deeds):
        """The deeds, each once, in the order of `deeds`."""
        wanted = set(deeds)
        return [deed for _, deed in self.deeds() if deed in wanted]

    def word(self, deed):
        return [word for word, told in self.deeds() if told == deed][0]

    @kept
    def made(self, lot):
        """The deeds that words of the lot have."""
        found = {self.deed("")}
        while True:
            more = found | {self.then(one, self.deed(x)) for one in found for x in lot}
            if more == found:
                return self.listed(found)
            found = more

    @kept
    def full_words(self, lot):
        """A list of (first full word, deed) for the deeds of full words, in order of words."""
        key = lambda word: (self.deed(word), frozenset(word))
        seen = {key("")}
        level = [""]
        found = []
        while level:
            fresh = []
            for word in [word + x for word in level for x in lot]:
                if key(word) not in seen:
                    seen.add(key(word))
                    fresh.append(word)
            found.extend((word, self.deed(word)) for word in fresh if set(word) == set(lot))
            level = fresh
        return found

    @kept
    def fulls(self, lot):
        return self.listed(deed for _, deed in self.full_words(lot))

    @kept
    def core(self, lot):
        made = self.made(lot)
        found = set(made)
        for s in made:
            ahead = {self.then(u, s) for u in made}
            found &= {self.then(us, v) for us in ahead for v in made}
        return self.listed(found)

    @kept
    def steady_core(self, lot):
        return [deed for deed in self.core(lot) if self.steady(deed)]

    @kept
    def group(self, lot, e):
        core = set(self.core(lot))
        return self.listed(d for d in (self.then(e, s, e) for s in self.made(lot)) if d in core)

    def is_block(self, five):
        """Whether five deeds are a block."""
        e, a, b, c, d = five
        return (self.steady(e) and self.then(e, a, c, e) == e and self.then(e, b, d, e) == e
                and self.then(e, a, b, c, d, e) != e)

    def has_block(self):
        """Whether some five deeds are a block: all are tried."""
        every = [deed for _, deed in self.deeds()]
        for e in every:
            pairs = [(a, c) for a in every for c in every if self.then(e, a, c, e) == e]
            for a, c in pairs:
                if any(self.is_block((e, a, b, c, d)) for b, d in pairs):
                    return True
        return False

    @kept
    def made_of_fulls(self, lot, depth):
        """The deeds that are made of `depth` full words of the lot."""
        fulls = set(self.fulls(lot))
        found = set(fulls)
        for _ in range(depth - 1):
            found = {self.then(one, other) for one in found for other in fulls}
        return found

    @kept
    def ends_fault(self, lot):
        steady = self.steady_core(lot)
        for one in steady:
            for other in steady:
                if not self.steady(self.then(one, other)):
                    return ("ends", lot, self.word(one), self.word(other))
        return None

    @kept
    def sums_fault(self, lot, e):
        group = self.group(lot, e)
        for one in group:
            for other in group:
                if self.then(one, other) != self.then(other, one):
                    return ("sums", lot, self.word(one), self.word(other))
        return None

    def page_fault(self, lot, depth, word):
        """The fault of a page of a book that has the right form, or None."""
        if self.deed(word) not in self.steady_core(lot):
            return ("core", lot)
        if not self.made_of_fulls(lot, depth) <= set(self.core(lot)):
            return ("depth", lot)
        return self.ends_fault(lot) or self.sums_fault(lot, self.deed(word))

    def page(self, lot):
        """The least depth and the first word that fits, or None."""
        for word, deed in self.full_words(lot):
            if deed in self.steady_core(lot):
                # A depth that is great enough for all of at most 100 deeds.
                if self.page_fault(lot, 101, word) is None:
                    depth = 1
                    while self.page_fault(lot, depth, word) is not None:
                        depth += 1
                    return (depth, word)
        return None

    def book(self):
        pages = {lot: self.page(lot) for lot in lots(self.letters)}
        return None if None in pages.values() else pages

    def book_fault(self, pages):
        """The fault of pages that have the right form."""
        for lot in lots(self.letters):
            fault = self.page_fault(lot, *pages[lot])
            if fault is not None:
                return fault
        return None


def _fewest(machine):
    """The table and the accepted states of the least machine, by the words that part states."""
    letters = machine.letters()
    every = words_up_to(letters, len(machine.table()) - 1)

    def answers(state):
        return tuple(walk(machine, word, state) in machine.accepts() for word in every)

    told = {state: answers(state) for state in range(len(machine.table()))}
    order = []
    for word in every:
        state = walk(machine, word)
        if told[state] not in [told[other] for other in order]:
            order.append(state)
    numbers = {told[state]: at for at, state in enumerate(order)}
    table = tuple(tuple(numbers[told[walk(machine, x, state)]] for x in letters)
                  for state in order)
    return table, tuple(numbers[told[s]] for s in order if s in machine.accepts())


def nested(kind, depth):
    """Lists, tuples or dicts, each one in the next one."""
    thing = 0
    for _ in range(depth):
        thing = [thing] if kind == "list" else (thing,) if kind == "tuple" else {"a": thing}
    return thing


def shared(depth, head=()):
    """Tuples thirty deep that have the same part twice: few values, but very many ways down."""
    thing = ("first", "a")
    for _ in range(depth - 1):
        thing = head + (thing, thing)
    return thing


def odd_values():
    """Values of every kind that may be passed where a point names an error."""
    return [
        None, True, False, 0, 1, -1, 2, 7, 101, 10 ** 30 + 1, 10 ** 60, -10 ** 60,
        "A", "z", "ab.", "a b", "a\n", " ", "aA", "1", "-", "a" * 250 + "?",
        (), (0,), (True,), (None,), ("",), ("a", "b"), ((), ()), ("", "", "", "", 0), (1, "a"),
        [], [0], ["a"], [[]], ["", "", "", "", ""], [("a", "b")],
        {}, {"a": 1}, {1: "a"}, {(): None}, {"a": (1, "a"), None: 0}, {True: False},
        nested("list", 30), nested("tuple", 30), nested("dict", 30),
        shared(30), shared(30, ("and",)), shared(30, ("cut", "a")), ("not", shared(29, ("or",))),
    ]
