"""Section 13 told once more: works run step by step, and all their places found round by round."""

import itertools
import sys

from tests.models import Asked, Ended, Hung
from tests.within import random_clause

sys.setrecursionlimit(30000)


class Finished(Exception):
    """A handler ends all that is run within it."""


class Plain:
    """A work that is run step by step by the answers of a history.

    `points`, `entries`, `exits` (with their entries), `begun` and `begun_ends` are those that came; `stand` are the
    points of all open activations.
    """

    def __init__(self, work, most=4000):
        self.rows = dict(work.functions())
        self.counts = dict(work.operations())
        self.handlers = {}
        for name, handler in work.handlers().items():
            self.counts.update({**handler.handled(), **handler.further()})
            self.handlers[name] = (handler.handled(), handler.start, handler.clauses(), handler.ends())
        self.most = most
        self.points, self.entries, self.exits = set(), set(), set()
        self.begun, self.begun_ends = set(), set()

    def operations(self):
        return self.counts

    def shown(self, history):
        """What it shows behind a history."""
        self.answers = [answer for _, answer in history]
        self.quiet = 0
        self.stack = []
        self.stand = []
        try:
            self.run("main")
        except Asked as asked:
            return ("ask", asked.args[0])
        except Ended as ended:
            return ("end", ended.args[0])
        except (Hung, RecursionError):
            return ("hang",)

    def come_to(self, row, chain=None):
        """Stands at a row, or at a row of the innermost clause that is gone through for it."""
        entry = self.stand[-1][0]
        self.stand[-1] = (entry, self.around(), row, () if chain is None else tuple(chain))
        self.points.add(self.stand[-1])
        self.quiet += 1
        if self.quiet > self.most:
            raise Hung

    def around(self):
        return tuple(tuple(pair) for pair in self.stack)

    def run(self, name):
        """Runs a function to its end, and tells its word."""
        entry = (name, self.around())
        self.entries.add(entry)
        depth = len(self.stand)
        self.stand.append((entry, (), 0, ()))
        try:
            word = self.run_rows(name)
        except Finished as finished:
            number, word, stack = finished.args
            self.exits.add((entry, ("finish", number, word, stack)))
            del self.stand[depth:]
            raise
        self.exits.add((entry, ("end", word, self.around())))
        del self.stand[depth:]
        if depth == 0:
            raise Ended(word)
        return word

    def run_rows(self, name):
        at = 0
        while True:
            self.come_to(at)
            row = self.rows[name][at]
            if row[0] == "end":
                return row[1]
            if row[0] == "go":
                at = row[1]
            elif row[0] == "ask":
                at = row[2][self.ask(row[1], len(self.stack), at, [])]
            else:
                word = self.run(row[1]) if row[0] == "call" else self.handle(row[1], row[2], at)
                if word not in dict(row[-1]):
                    return word
                at = dict(row[-1])[word]

    def handle(self, name, function, at):
        """Runs a function within a new handler, and tells the word with which all that has ended."""
        _, start, _, ends = self.handlers[name]
        level = len(self.stack)
        self.stack.append([name, start])
        try:
            word = self.run(function)
        except Finished as finished:
            if finished.args[0] != level:
                raise
            del self.stack[level:]
            return finished.args[1]
        state = self.stack.pop()[1]
        if (state, word) not in ends:
            return word
        self.begun_ends.add((name, state, word))
        return self.go_through(ends[state, word], level, at, [], (name, state, word))[1]

    def ask(self, operation, level, at, chain):
        """Asks it of the so many outermost handlers, for a row of the function, and returns the answer."""
        while level > 0:
            level -= 1
            name, state = self.stack[level]
            handled, _, clauses, _ = self.handlers[name]
            if operation in handled:
                self.begun.add((name, state, operation))
                row = self.go_through(clauses[state, operation], level, at, chain, (level, operation))
                if row[0] == "finish":
                    raise Finished(level, row[1], self.around()[:level])
                self.stack[level][1] = row[2]
                return row[1]
        if not self.answers:
            raise Asked(operation)
        self.quiet = 0
        return self.answers.pop(0)

    def go_through(self, rows, level, at, chain, link):
        """Goes through a clause; what it asks is asked of the handlers below the level. Returns its last row."""
        place = 0
        while True:
            here = chain + [link + (place,)]
            self.come_to(at, here)
            row = rows[place]
            if row[0] == "go":
                place = row[1]
            elif row[0] == "ask":
                place = row[2][self.ask(row[1], level, at, here)]
            else:
                return row

    def walk(self, most=10 ** 9):
        """Goes through all histories of at most so many elements, each stand gone on with but once.

        Tells the shows that came, with the number of elements of a shortest history, and all stands.
        """
        shows, stands = {}, set()
        waiting = [()]
        for history in waiting:
            told = self.shown(history)
            shows.setdefault(told, len(history))
            if told[0] != "ask":
                stands.add(told)
            elif tuple(self.stand) not in stands:
                stands.add(tuple(self.stand))
                if len(history) < most:
                    waiting += [history + ((told[1], k),) for k in range(self.counts[told[1]])]
        return shows, stands


class Rounds:
    """All places of a work, found round by round: each entry is gone through with the exits that are known so far."""

    def __init__(self, work):
        self.plain = Plain(work)
        self.entries = {("main", ())}
        self.exits = {}
        self.points = set()
        self.asked = set()
        many = -1
        while many != len(self.points) + len(self.entries) + sum(len(told) for told in self.exits.values()):
            many = len(self.points) + len(self.entries) + sum(len(told) for told in self.exits.values())
            for entry in sorted(self.entries):
                self.go_in(entry)

    def go_in(self, entry):
        waiting = [(entry[1], 0, ())]
        known = set(waiting)
        while waiting:
            place = waiting.pop()
            self.points.add((entry, *place))
            for kind, following in self.nexts(entry, *place):
                if kind == "exit":
                    self.exits.setdefault(entry, set()).add(following)
                elif following not in known:
                    known.add(following)
                    waiting.append(following)

    def row_ended(self, stack, row, line, word):
        nexts = dict(line[-1])
        return ("to", (stack, nexts[word], ())) if word in nexts else ("exit", ("end", word, stack))

    def clause(self, stack, link):
        if len(link) == 4:
            return self.plain.handlers[link[0]][3][link[1], link[2]]
        name, state = stack[link[0]]
        return self.plain.handlers[name][2][state, link[1]]

    def nexts(self, entry, stack, row, chain):
        line = self.plain.rows[entry[0]][row]
        if chain:
            here = self.clause(stack, chain[-1])[chain[-1][-1]]
            moved = [(stack, row, chain[:-1] + (chain[-1][:-1] + (at,),)) for at in {"go": here[1:], "ask": here[2:] and here[2]}.get(here[0], ())]
            if here[0] == "go":
                return [("to", moved[0])]
            if here[0] == "ask":
                return self.asks(stack, row, chain, here[1], len(stack) if len(chain[-1]) == 4 else chain[-1][0], moved)
            if here[0] == "finish" and len(chain[-1]) == 4:
                return [self.row_ended(stack, row, line, here[1])]
            level = chain[-1][0]
            if here[0] == "finish":
                return [("exit", ("finish", level, here[1], stack[:level]))]
            stack = stack[:level] + ((stack[level][0], here[2]),) + stack[level + 1:]
            if len(chain) == 1:
                return [("to", (stack, line[2][here[1]], ()))]
            outer = chain[-2]
            at = self.clause(stack, outer)[outer[-1]][2][here[1]]
            return [("to", (stack, row, chain[:-2] + (outer[:-1] + (at,),)))]
        if line[0] == "end":
            return [("exit", ("end", line[1], stack))]
        if line[0] == "go":
            return [("to", (stack, line[1], ()))]
        if line[0] == "ask":
            return self.asks(stack, row, chain, line[1], len(stack), [(stack, at, ()) for at in line[2]])
        return self.runs(stack, row, line)

    def asks(self, stack, row, chain, operation, level, moved):
        for number in reversed(range(level)):
            if operation in self.plain.handlers[stack[number][0]][0]:
                return [("to", (stack, row, chain + ((number, operation, 0),)))]
        self.asked.add(operation)
        return [("to", place) for place in moved]

    def runs(self, stack, row, line):
        inner = (line[1], stack)
        if line[0] == "handle":
            inner = (line[2], stack + ((line[1], self.plain.handlers[line[1]][1]),))
        self.entries.add(inner)
        found = []
        for told in self.exits.get(inner, ()):
            if told[0] == "finish":
                mine = told[1] == len(stack)
                found.append(self.row_ended(told[3], row, line, told[2]) if mine else ("exit", told))
            elif line[0] == "call":
                found.append(self.row_ended(told[2], row, line, told[1]))
            else:
                (name, state), after = told[2][-1], told[2][:-1]
                if (state, told[1]) in self.plain.handlers[name][3]:
                    found.append(("to", (after, row, ((name, state, told[1], 0),))))
                else:
                    found.append(self.row_ended(after, row, line, told[1]))
        return found


def random_handler(random, handled, further, words, states, most):
    """The parts of a handler whose clauses mostly answer, by what they have asked further out."""
    clauses, ends = {}, {}
    for state, name in itertools.product(states, handled):
        if not handled[name] or random.random() < 0.2:
            clauses[state, name] = random_clause(random, further, handled[name], words, states, random.randrange(1, most + 1))
            continue
        rows = []
        if further and random.random() < 0.6:
            operation = random.choice(sorted(further))
            rows.append(("ask", operation, tuple(1 + answer for answer in range(further[operation]))))
        for _ in range(max(1, len(rows) and len(rows[0][2]))):
            answer = ("answer", random.randrange(handled[name]), random.choice(states))
            rows.append(random.choice([answer] * 5 + [("finish", random.choice(words))]))
        clauses[state, name] = rows
    for state, word in itertools.product(states, words):
        if random.random() < 0.3:
            ends[state, word] = random_clause(random, further, 0, words, states, random.randrange(1, most + 1))
    return handled, further, random.choice(states), clauses, ends


def random_functions(random, operations, handlers, many, most, words, recursive=True):
    """Rows of functions that run later ones, or, if they are recursive, by "call" themselves."""
    names = ["main", "f", "g", "h", "i", "j"][:many]
    functions = []
    for number, name in enumerate(names):
        size = random.randrange(min(3, most), most + 1)
        rows = [random_row(random, operations, handlers, names, number, (at, size), words, recursive) for at in range(size)]
        if random.random() < 0.8:
            rows[-1] = ("end", random.choice(words))
        functions.append((name, rows))
    return functions


def random_row(random, operations, handlers, names, number, place, words, recursive):
    """A row that mostly leads to later rows."""
    at, size = place

    def following():
        return random.randrange(at + 1 if at + 1 < size and random.random() < 0.8 else 0, size)

    word = random.choice(["end", "ask", "ask", "ask", "ask", "ask", "go", "call", "call", "handle", "handle", "handle"])
    later = names[number + 1:]
    nexts = {word: following() for word in words if random.random() < 0.7}
    if random.random() < 0.3:
        nexts = random.sample(sorted(nexts.items()), len(nexts))
    if word == "call" and recursive and number > 0 and random.random() < 0.5:
        return ("call", names[number], nexts)
    if word == "call" and later:
        return ("call", random.choice(later), nexts)
    if word in ("call", "handle") and later and handlers:
        return ("handle", random.choice(sorted(handlers)), random.choice(later[:2]), nexts)
    if word == "go":
        return ("go", following())
    if word != "end" and operations:
        operation = random.choice(sorted(operations))
        return ("ask", operation, tuple(following() for _ in range(operations[operation])))
    return ("end", random.choice(words))
