"""The document told once more, as plainly as can be, to compare the program with."""


def shown_by_rows(body, history):
    """What a body shows behind a history that can come with it, gone through row by row."""
    rows = body.rows()
    at = body.start
    left = list(history)
    quiet = 0
    while True:
        row = rows[at]
        if row[0] == "go":
            quiet += 1
            if quiet > len(rows):
                return ("hang",)
            at = row[1]
        elif row[0] == "end" or not left:
            return row[:2]
        else:
            quiet = 0
            at = row[2][left.pop(0)[1]]


def histories(body, show, most):
    """All histories with at most so many elements that can come with what shows this, each with what it shows."""
    waiting = [()]
    while waiting:
        history = waiting.pop()
        shows = show(history)
        yield history, shows
        if shows[0] == "ask" and len(history) < most:
            for answer in range(body.operations()[shows[1]]):
                waiting.append(history + ((shows[1], answer),))


def random_rows(random, operations, many, words):
    """Rows of a body, with rings of "go" rows and rows that nothing comes to among them."""
    rows = []
    for _ in range(many):
        word = random.choice(["ask", "ask", "ask", "go", "end"])
        if word == "end":
            rows.append(("end", random.choice(words)))
        elif word == "go" or not operations:
            rows.append(("go", random.randrange(many)))
        else:
            operation = random.choice(sorted(operations))
            rows.append(("ask", operation, tuple(random.randrange(many) for _ in range(operations[operation]))))
    return rows


class Asked(Exception):
    """An ask for which no answer is left."""


class Ended(Exception):
    """An end."""


class Hung(Exception):
    """The same stand comes once more without an ask between."""


class Left(Exception):
    """A loop that is left."""


class Again(Exception):
    """A round that is ended."""


class Written:
    """A block that is done statement by statement, by the answers of a history.

    `stands` are all configurations to which it came; `last` is the one at which it stands now.
    """

    def __init__(self, operations, sizes, block):
        self.counts = operations
        self.sizes = sizes
        self.block = block
        self.stands = set()

    def operations(self):
        return self.counts

    def shown(self, history):
        """What it shows behind a history."""
        self.held = {name: 0 for name in self.sizes}
        self.answers = [answer for _, answer in history]
        self.quiet = set()
        try:
            self.do_block(self.block, ())
        except Asked as asked:
            return ("ask", asked.args[0])
        except Ended as ended:
            return ("end", ended.args[0])
        except Hung:
            return ("hang",)
        self.stands.add("behind")
        return ("end", "done")

    def count(self):
        """The number of configurations that can come, each ask gone on with but once."""
        self.stands = set()
        known = set()
        waiting = [()]
        while waiting:
            history = waiting.pop()
            shows = self.shown(history)
            if shows[0] == "ask" and self.last not in known:
                known.add(self.last)
                waiting += [history + ((shows[1], answer),) for answer in range(self.counts[shows[1]])]
        return len(self.stands)

    def come_to(self, place):
        self.last = (place, tuple(sorted(self.held.items())))
        self.stands.add(self.last)
        if self.last in self.quiet:
            raise Hung
        self.quiet.add(self.last)

    def do_block(self, block, place):
        for index, statement in enumerate(block):
            self.come_to(place + (index,))
            getattr(self, "do_" + statement[0])(place + (index,), *statement[1:])

    def do_ask(self, place, name, operation):
        if not self.answers:
            raise Asked(operation)
        answer = self.answers.pop(0)
        self.quiet = set()
        if name is not None:
            self.held[name] = answer

    def do_set(self, place, name, k):
        self.held[name] = k

    def do_copy(self, place, one, other):
        self.held[one] = self.held[other]

    def do_turn(self, place, name):
        self.held[name] = 0 if self.held[name] == self.sizes[name] - 1 else self.held[name] + 1

    def do_when(self, place, name, k, yes, no):
        if self.held[name] == k:
            self.do_block(yes, place + (0,))
        else:
            self.do_block(no, place + (1,))

    def do_same(self, place, one, other, yes, no):
        self.do_when(place, one, self.held[other], yes, no)

    def do_loop(self, place, block):
        while True:
            try:
                self.do_block(block, place + (0,))
            except Again:
                pass
            except Left:
                return
            self.come_to(place)

    def do_leave(self, place):
        raise Left

    def do_again(self, place):
        raise Again

    def do_end(self, place, word):
        raise Ended(word)


def random_block(random, operations, sizes, room, in_loop, deep):
    """A block of right statements, of at most so much room, and the room that is left."""
    block = []
    names = sorted(sizes)
    while room > 0 and random.random() < 0.75:
        room -= 1
        words = ["end", "ask", "ask", "ask"]
        if names:
            words += ["set", "turn", "turn", "copy"]
        if deep < 6:
            words += ["loop", "loop"] + (["when", "same", "when", "same"] if names else [])
        if in_loop:
            words += ["leave", "again"]
        word = random.choice(words)
        if word in ("when", "same", "loop"):
            statement, room = random_holder(random, operations, sizes, room, in_loop, deep, word)
        else:
            statement = random_plain(random, operations, sizes, word)
        block.append(random.choice([tuple, list])(statement))
    return random.choice([tuple, list])(block), room


def random_holder(random, operations, sizes, room, in_loop, deep, word):
    blocks = []
    for _ in range(1 if word == "loop" else 2):
        inner, room = random_block(random, operations, sizes, room, in_loop or word == "loop", deep + 1)
        blocks.append(inner)
    names = sorted(sizes)
    if word == "loop":
        return ["loop"] + blocks, room
    one = random.choice(names)
    if word == "same":
        return ["same", one, random.choice(names)] + blocks, room
    return ["when", one, random.randrange(sizes[one])] + blocks, room


def random_plain(random, operations, sizes, word):
    names = sorted(sizes)
    if word == "ask":
        operation = random.choice(sorted(operations))
        fit = [name for name in names if sizes[name] >= operations[operation]]
        return ["ask", random.choice(fit + [None]), operation]
    if word == "end":
        return ["end", random.choice(["done", "good", "odd"])]
    if word in ("leave", "again"):
        return [word]
    one = random.choice(names)
    if word == "set":
        return ["set", one, random.randrange(sizes[one])]
    if word == "copy":
        return ["copy", one, random.choice([name for name in names if sizes[name] <= sizes[one]])]
    return ["turn", one]
