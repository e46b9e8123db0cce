"""Sections 6 to 9 told once more, step by step, to compare the program with."""

from tests.models import Asked, Ended, Hung


class Within:
    """A body within handlers, the innermost one first, gone through step by step by the answers of a history.

    `stands` are the configurations of section 7 to which it came, if there is one handler; `begun` are the
    clauses that were begun, as tuples (number of the handler, "ask" or "end", state, name).
    """

    def __init__(self, handlers, body):
        self.handlers = [(h.handled(), h.start, h.clauses(), h.ends()) for h in handlers]
        self.rows = body.rows()
        self.begin = body.start
        self.counts = dict(body.operations())
        for handler in handlers:
            self.counts.update(handler.further())
        self.stands = set()
        self.begun = set()
        self.most = len(self.rows) + 1
        for handled, _, clauses, ends in self.handlers:
            states = len({at[0] for at in clauses} | {at[0] for at in ends}) + 1
            self.most *= states * (1 + max([len(rows) for rows in [*clauses.values(), *ends.values()]], default=0))

    def operations(self):
        return self.counts

    def shown(self, history):
        """What it shows behind a history."""
        self.states = [start for _, start, _, _ in self.handlers]
        self.answers = [answer for _, answer in history]
        self.quiet = 0
        try:
            self.run()
        except Asked as asked:
            return ("ask", asked.args[0])
        except Ended as ended:
            return ("end", ended.args[0])
        except Hung:
            return ("hang",)

    def come_to(self, *place):
        self.last = (self.row, tuple(self.states), *place)
        self.stands.add(self.last)
        self.quiet += 1
        if self.quiet > self.most:
            raise Hung

    def run(self):
        self.row = self.begin
        while True:
            row = self.rows[self.row]
            self.come_to()
            if row[0] == "end":
                self.finish(row[1], 0)
            elif row[0] == "ask":
                self.row = row[2][self.ask(row[1], 0)]
            else:
                self.row = row[1]

    def ask(self, operation, level):
        """Asks it of the handlers from this level on, and returns the answer."""
        if level == len(self.handlers):
            if not self.answers:
                raise Asked(operation)
            self.quiet = 0
            return self.answers.pop(0)
        handled, _, clauses, _ = self.handlers[level]
        if operation not in handled:
            return self.ask(operation, level + 1)
        self.begun.add((level, "ask", self.states[level], operation))
        return self.go_through(clauses[self.states[level], operation], level)

    def finish(self, word, level):
        """All within this level ends with the word."""
        if level == len(self.handlers):
            raise Ended(word)
        ends = self.handlers[level][3]
        if (self.states[level], word) not in ends:
            self.finish(word, level + 1)
        self.begun.add((level, "end", self.states[level], word))
        self.go_through(ends[self.states[level], word], level)

    def go_through(self, rows, level):
        """Goes through a clause of the handler with this level, and returns the answer."""
        at = 0
        while True:
            row = rows[at]
            self.come_to(level, at)
            if row[0] == "go":
                at = row[1]
            elif row[0] == "ask":
                at = row[2][self.ask(row[1], level + 1)]
            elif row[0] == "finish":
                self.finish(row[1], level + 1)
            else:
                self.states[level] = row[2]
                return row[1]

    def walk(self):
        """Goes through all that can come, each configuration that asks from without being gone on with but once."""
        known = set()
        waiting = [()]
        while waiting:
            history = waiting.pop()
            shows = self.shown(history)
            if shows[0] == "ask" and self.last not in known:
                known.add(self.last)
                waiting += [history + ((shows[1], answer),) for answer in range(self.counts[shows[1]])]
        return self


def random_clause(random, further, many, words, states, size):
    """Rows of a clause for an operation with so many answers; no "answer" for none."""
    rows = []
    for _ in range(size):
        word = random.choice(["ask", "ask", "go", "answer", "answer", "answer", "finish"])
        if word == "ask" and further:
            operation = random.choice(sorted(further))
            rows.append(("ask", operation, tuple(random.randrange(size) for _ in range(further[operation]))))
        elif word == "go":
            rows.append(("go", random.randrange(size)))
        elif word == "finish" or not many:
            rows.append(("finish", random.choice(words)))
        else:
            rows.append(("answer", random.randrange(many), random.choice(states)))
    return rows


def random_parts(random, handled, further, words, states, most):
    """The five parts of a handler that has clauses of at most so many rows, some of them clauses of ends."""
    clauses = {}
    for state in states:
        for operation, many in handled.items():
            size = random.randrange(1, most + 1)
            clauses[state, operation] = random_clause(random, further, many, words, states, size)
    ends = {}
    for state in states:
        for word in words:
            if random.random() < 0.3:
                ends[state, word] = random_clause(random, further, 0, words, states, random.randrange(1, most + 1))
    return handled, further, random.choice(states), clauses, ends
