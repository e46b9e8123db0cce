"""Section 10: handlers alike, what parts them, and closed rows of pairs of states."""

import itertools
import random

from askfurther.bodies import Body
from askfurther.errors import Apart, Mismatch
from askfurther.fusing import fused, handled
from askfurther.handlers import Handler, passing
from askfurther.likeness import parted, within
from askfurther.sameness import (least_handler, parted_handlers, parting_body, state_pairs, state_pairs_fault,
                                 within_handlers)
from tests import sides
from tests.checks import Checks
from tests.models import random_rows
from tests.odd import DICTS, INTEGERS, NO_NAMES, NO_ROWS, NOTHINGS, ROWS
from tests.within import random_clause, random_parts

WORDS = ["x", "y"]
COUNTS = {"a": 2, "b": 1, "c": 0, "e": 2}
FLIP = Handler({"coin": 2}, {"tell": 1}, "low",
               {("low", "coin"): [("answer", 1, "high")], ("high", "coin"): [("ask", "tell", (1,)), ("answer", 0, "low")]},
               {("high", "good"): [("finish", "odd")]})
LONG = Handler({"coin": 2, "tell": 1}, {"tell": 1}, "x",
               {("x", "coin"): [("go", 2), ("go", 1), ("answer", 1, "y")],
                ("y", "coin"): [("ask", "tell", (1,)), ("answer", 0, "z")], ("z", "coin"): [("answer", 1, "y")],
                ("x", "tell"): [("ask", "tell", (1,)), ("answer", 0, "z")],
                ("y", "tell"): [("ask", "tell", (1,)), ("answer", 0, "y")],
                ("z", "tell"): [("ask", "tell", (1,)), ("answer", 0, "x")]},
               {("y", "good"): [("finish", "odd")], ("z", "good"): [("finish", "good")]})


def some(chance, least_many=0, most=2):
    names = chance.sample(sorted(COUNTS), chance.randrange(least_many, most + 1))
    return {name: COUNTS[name] for name in sorted(names)}


def drawn(chance, states=("p", "q", "r"), most=3):
    return Handler(*random_parts(chance, some(chance), some(chance, 1, 4), WORDS, states[:chance.randrange(1, 4)], most))


def deep(chance):
    """Two handlers that are unlike in one end or one answer, if at all, behind what all clauses show alike."""
    states = "pqrstu"
    clauses = {}
    for state, name in itertools.product(states, "ab"):
        many = chance.randrange(4)
        rows = [("ask", "e", (at + 1, chance.randrange(at + 1, many + 2))) for at in range(many)]
        rows += [("answer", 0, chance.choice(states)) for _ in range(2)]
        clauses[state, name] = rows
    ends = {("u", chance.choice(["x", "y"])): [("ask", "e", (1, 1)), ("finish", "z")] for _ in range(chance.randrange(2))}
    one = Handler({"a": 2, "b": 2}, {"e": 2}, "p", clauses, ends)
    at = chance.choice(sorted(clauses))
    place = [place for place, row in enumerate(clauses[at]) if row[0] == "answer"][chance.randrange(2)]
    rows = list(clauses[at])
    rows[place] = ("answer", chance.choice([0, 0, 1]), chance.choice(states))
    return one, Handler({"a": 2, "b": 2}, {"e": 2}, "p", {**clauses, at: rows}, {} if chance.random() < 0.3 else ends)


def stirred(chance, handler, counts=COUNTS):
    """A handler that is alike: each state in two copies, "go" rows put in, what is let by told by clauses."""
    handles, further = handler.handled(), handler.further()
    for name in counts:
        if name not in handles and chance.random() < 0.4:
            handles[name] = further[name] = counts[name]
    words = sorted({word for _, word in handler.ends()} | {chance.choice(["x", "z"])})
    side = sides.Side(handler, {**counts, **handles})
    clauses, ends = {}, {}
    for state, copy in itertools.product(handler.states(), "mn"):
        for name in handles:
            rows = side.clause(state, ("ask", name))
            clauses[state + copy, name] = gone_around(chance, rows)
        for word in words:
            if (state, word) in handler.ends() or chance.random() < 0.5:
                ends[state + copy, word] = gone_around(chance, side.clause(state, ("end", word)))
    return Handler(handles, further, handler.start + chance.choice("mn"), clauses, ends)


def gone_around(chance, rows):
    """The rows of a clause in another order, with "go" rows between, the states told in either copy."""
    many = len(rows)
    places = list(range(1, 2 * many + 1))
    chance.shuffle(places)
    found = [("go", places[0])] + [None] * (2 * many)
    for at, row in enumerate(rows):
        def place(index):
            return places[index + chance.choice([0, many])]

        found[places[at + many]] = ("go", places[at])
        if row[0] == "ask":
            row = ("ask", row[1], tuple(place(index) for index in row[2]))
        elif row[0] == "go":
            row = ("go", place(row[1]))
        elif row[0] == "answer":
            row = ("answer", row[1], row[2] + chance.choice("mn"))
        found[places[at]] = row
    return found


def changed(chance, handler):
    """The handler with another row in the place of one, or another start, or a clause of ends less or more."""
    parts = [handler.handled(), handler.further(), handler.start, handler.clauses(), handler.ends()]
    what = chance.random()
    if what < 0.1:
        parts[2] = chance.choice(handler.states())
    elif what < 0.2 and parts[4]:
        del parts[4][chance.choice(sorted(parts[4]))]
    elif what < 0.3:
        parts[4][chance.choice(handler.states()), "y"] = [("finish", "x")]
    else:
        tables = [table for table in parts[3:] if table]
        if tables:
            table = chance.choice(tables)
            at = chance.choice(sorted(table))
            rows = list(table[at])
            many = parts[0].get(at[1], 0) if table is parts[3] else 0
            fresh = random_clause(chance, parts[1], many, WORDS, handler.states(), len(rows))
            place = chance.randrange(len(rows))
            rows[place] = fresh[place]
            table[at] = rows
    return Handler(*parts)


class Alike(Checks):
    def holds(self, one, other):
        """Compares all functions of two handlers with the model, either way round."""
        told = parted_handlers(one, other)
        self.assertEqual(told, sides.first_apart(one, other, False))
        turned = parted_handlers(other, one)
        self.assertEqual(turned, told and told[:3] + (told[4], told[3]))
        self.assertEqual(least_handler(one) == least_handler(other), told is None)
        for first, second in ((one, other), (other, one)):
            self.assertEqual(within_handlers(first, second), sides.first_apart(first, second, True))
            if told is None:
                self.closed(first, second)
            else:
                self.refused(Apart, lambda: state_pairs(first, second), told[0])
        self.parts(one, other, told)
        return told

    def closed(self, one, other):
        pairs = state_pairs(one, other)
        self.assertEqual(pairs, sides.all_state_pairs(one, other))
        self.assertIsNone(state_pairs_fault(one, other, pairs))

    def parts(self, one, other, told):
        """The parting body is parted, and asks no more than what is told."""
        body = parting_body(one, other)
        if told is None:
            self.assertIsNone(body)
            return
        self.assertIs(type(body), Body)
        self.assertIsNotNone(parted(handled(one, body), handled(other, body)))
        self.assertEqual(body.operations(), {**one.handled(), **other.handled()})
        self.assertLessEqual(most_asks(body), len(told[0]) + 1)

    def test_drawn(self):
        chance = random.Random(101)
        found = [0, 0]
        lengths = set()
        for _ in range(250):
            one, other = drawn(chance), drawn(chance)
            self.holds(one, other)
            other = stirred(chance, one)
            self.assertIsNone(self.holds(one, other))
            for _ in range(2):
                other = changed(chance, other)
                told = self.holds(one, other)
                found[told is None] += 1
                if told is not None:
                    lengths.add((min(len(told[0]), 2), min(len(told[2]), 2)))
                    lengths.add(told[1][0])
        self.assertGreater(min(found), 30)
        self.assertLessEqual({(0, 0), (0, 1), (1, 0), (1, 1), "ask", "end"}, lengths)

    def test_drawn_that_are_parted_late(self):
        chance = random.Random(106)
        lengths = set()
        for _ in range(200):
            told = self.holds(*deep(chance))
            if told is not None:
                lengths.update([len(told[0]), ("history", len(told[2])), told[1][0]])
        self.assertLessEqual({0, 1, 2, 3, 4, "ask", "end"} | {("history", many) for many in range(7)}, lengths)

    def test_what_is_told_comes_first_of_all_asks_and_histories(self):
        chance = random.Random(102)
        many = 0
        for _ in range(400):
            one = drawn(chance, most=2)
            other = changed(chance, changed(chance, one))
            for call, inward in ((parted_handlers, False), (within_handlers, True)):
                told = call(one, other)
                if told is None or len(told[0]) + len(told[2]) <= 3:
                    many += told is not None
                    self.assertEqual(told, sides.first_apart(one, other, inward, prune=False, most=3))
        self.assertGreater(many, 100)

    def test_alike_is_alike_within_all_bodies(self):
        chance = random.Random(103)
        found = set()
        for _ in range(150):
            one = drawn(chance)
            other = stirred(chance, one) if chance.random() < 0.5 else changed(chance, one)
            told = parted_handlers(one, other)
            inner = within_handlers(one, other)
            found.add((told is None, inner is None))
            for _ in range(10):
                body = Body(COUNTS, random_rows(chance, COUNTS, 5, WORDS + ["z"]), start=chance.randrange(5))
                if told is None:
                    self.assertIsNone(parted(handled(one, body), handled(other, body)))
                if inner is None:
                    self.assertIsNone(within(handled(one, body), handled(other, body)))
        self.assertEqual(found, {(True, True), (False, False), (False, True)})

    def test_alike_within_and_around_others(self):
        chance = random.Random(104)
        for _ in range(100):
            one, third = drawn(chance), drawn(chance)
            other = stirred(chance, one)
            for both in ((fused(one, third), fused(other, third)), (fused(third, one), fused(third, other))):
                self.assertIsNone(parted_handlers(*both))
                self.assertIsNone(within_handlers(*both))
                self.assertEqual(least_handler(both[0]), least_handler(both[1]))
                self.assertIsNone(state_pairs_fault(*both, state_pairs(*both)))
            self.assertIsNone(parted_handlers(fused(fused(one, third), one), fused(other, fused(third, one))))

    def test_one_thing_that_is_unlike(self):
        clauses = {("s", "a"): [("ask", "e", (1, 2)), ("answer", 0, "s"), ("answer", 1, "t")],
                   ("t", "a"): [("ask", "e", (1, 2)), ("answer", 1, "s"), ("go", 2)]}
        ends = {("t", "x"): [("ask", "e", (1, 1)), ("finish", "y")]}
        one = Handler({"a": 2}, {"e": 2}, "s", clauses, ends)
        self.assertIsNone(self.holds(one, one))
        at = (("a", 1),)

        def unlike(rows, other_ends=ends, at=("t", "a")):
            return self.holds(one, Handler({"a": 2}, {"e": 2}, "s", {**clauses, at: rows} if rows else clauses, other_ends))

        # Another answer, another state, another row, a hang the other way round.
        self.assertEqual(unlike([("ask", "e", (1, 2)), ("answer", 0, "s"), ("go", 2)]),
                         (at, ("ask", "a"), (("e", 1), ("e", 0)), ("answer", 1), ("answer", 0)))
        self.assertEqual(unlike([("ask", "e", (1, 2)), ("answer", 1, "t"), ("go", 2)]),
                         ((("a", 1), ("a", 1)), ("end", "x"), (("e", 1), ("e", 0)), ("finish", "x"), ("ask", "e")))
        self.assertEqual(unlike([("ask", "e", (1, 2)), ("answer", 1, "s"), ("answer", 1, "t")]),
                         (at, ("ask", "a"), (("e", 1), ("e", 1)), ("hang",), ("answer", 1)))
        self.assertEqual(unlike([("answer", 1, "s"), ("go", 0)]), (at, ("ask", "a"), (("e", 1),), ("ask", "e"), ("answer", 1)))
        self.assertEqual(unlike([("finish", "y")]), (at, ("ask", "a"), (("e", 1),), ("ask", "e"), ("finish", "y")))
        # Another word, another clause of ends, none, one more.
        self.assertEqual(unlike([], {("t", "x"): [("ask", "e", (1, 1)), ("finish", "z")]}),
                         (at, ("end", "x"), (("e", 1), ("e", 0)), ("finish", "y"), ("finish", "z")))
        self.assertEqual(unlike([], {}), (at, ("end", "x"), (("e", 1),), ("ask", "e"), ("finish", "x")))
        self.assertEqual(unlike([], {**ends, ("s", "y"): [("finish", "z")]}),
                         ((), ("end", "y"), (), ("finish", "y"), ("finish", "z")))
        self.assertEqual(unlike([], {**ends, ("s", "y"): [("go", 0)]}), ((), ("end", "y"), (), ("finish", "y"), ("hang",)))
        self.assertIsNone(unlike([], {**ends, ("s", "y"): [("go", 1), ("finish", "y")]}))

    def test_fewest_asks_then_shortest_history_then_first(self):
        # Behind no ask "b" parts by a long history, behind one ask "a" by a short one: fewer asks come first.
        chain = [("ask", "e", (at + 1,)) for at in range(4)]
        for given in (0, 1):
            clauses = {("s", "a"): [("answer", 0, "t")], ("t", "a"): [("answer", given, "t")],
                       ("s", "b"): chain + [("answer", given, "s")], ("t", "b"): [("answer", 0, "t")]}
            if given == 0:
                one = Handler({"a": 2, "b": 2}, {"e": 1}, "s", clauses, {})
            else:
                other = Handler({"a": 2, "b": 2}, {"e": 1}, "s", clauses, {})
        self.assertEqual(self.holds(one, other), ((), ("ask", "b"), (("e", 0),) * 4, ("answer", 0), ("answer", 1)))
        # Of one ask the one with the shorter history, though "a" comes ahead of "b" and "x" ahead of "y".
        rows = {("s", "a"): [("ask", "e", (1,)), ("answer", 0, "t")], ("s", "b"): [("answer", 0, "u")]}
        for state in "tu":
            rows.update({(state, name): [("answer", 0, state)] for name in "ab"})
        one = Handler({"a": 1, "b": 1}, {"e": 1}, "s", rows, {("t", "x"): [("finish", "y")], ("u", "y"): [("finish", "z")]})
        two = Handler({"a": 1, "b": 1}, {"e": 1}, "s", rows, {})
        self.assertEqual(self.holds(one, two), ((("b", 0),), ("end", "y"), (), ("finish", "z"), ("finish", "y")))
        # Of the same lengths the first asks come ahead of what is done last, and this ahead of the history.
        rows["s", "b"] = [("ask", "e", (1,)), ("answer", 0, "u")]
        one = Handler({"a": 1, "b": 1}, {"e": 1}, "s", rows, {("t", "y"): [("finish", "q")], ("u", "x"): [("finish", "z")]})
        two = Handler({"a": 1, "b": 1}, {"e": 1}, "s", rows, {})
        self.assertEqual(self.holds(one, two)[:2], ((("a", 0),), ("end", "y")))

    def test_the_last_thing_comes_ahead_of_the_history(self):
        # Behind "a" one of two states comes, by the history: "x" parts in the second one, "y" in the first one.
        rows = {("s", "a"): [("ask", "e", (1, 2)), ("answer", 0, "t"), ("answer", 0, "u")]}
        rows.update({(state, "a"): [("answer", 0, state)] for state in "tu"})
        ends = {("t", "y"): [("finish", "z")], ("u", "x"): [("finish", "z")]}
        one, two = Handler({"a": 1}, {"e": 2}, "s", rows, ends), Handler({"a": 1}, {"e": 2}, "s", rows, {})
        self.assertEqual(self.holds(one, two), ((("a", 0),), ("end", "x"), (("e", 1),), ("finish", "z"), ("finish", "x")))
        ends = {("t", "x"): [("finish", "z")], ("u", "x"): [("finish", "y")]}
        one = Handler({"a": 1}, {"e": 2}, "s", rows, ends)
        self.assertEqual(self.holds(one, two)[1:3], (("end", "x"), (("e", 0),)))

    def test_histories_of_the_same_length_that_parted_early(self):
        # Ways of unlike lengths in the first clause and in the second one lead to histories of the same length.
        rows = {("s", "a"): [("ask", "e", (1, 3)), ("ask", "f", (2,)), ("answer", 0, "t"), ("answer", 0, "u")],
                ("t", "a"): [("ask", "f", (1,)), ("answer", 0, "v")],
                ("u", "a"): [("ask", "f", (1,)), ("ask", "f", (2,)), ("answer", 0, "w")]}
        rows.update({(state, "a"): [("answer", 0, state)] for state in "vw"})
        two = Handler({"a": 1}, {"e": 2, "f": 1}, "s", rows, {})
        for states in ("v", "w", "vw"):
            one = Handler({"a": 1}, {"e": 2, "f": 1}, "s", rows, {(state, "x"): [("finish", "z")] for state in states})
            told = self.holds(one, two)
            self.assertEqual((told[0], told[2][0]), ((("a", 0),) * 2, ("e", 1 if states == "w" else 0)))
            self.assertEqual(len(told[2]), 3)

    def clauses_of_t_and_u(self, swapped, longer, unlike):
        """Two handlers that are in the state t behind one answer from further out, in u behind the other one and some more.

        The clauses that are told ask "f" in the one handler where they ask "g" in the other one.
        """
        rows = [("ask", "e", (2, 1) if swapped else (1, 2)), ("answer", 0, "t")]
        rows += [("ask", "f", (at + 1,)) for at in range(2, 2 + longer)] + [("answer", 0, "u")]
        tables = []
        for word in "fg":
            clauses = {("s", "a"): rows, ("s", "b"): [("answer", 0, "s")]}
            for state in "tu":
                for name in "ab":
                    many = unlike.get(state + name, 9)
                    clauses[state, name] = [("ask", word if at == many else "f", (at + 1,)) for at in range(min(many, 3) + 1)] + [("answer", 0, "s")]
            tables.append(Handler({"a": 1, "b": 1}, {"e": 2, "f": 1, "g": 1}, "s", clauses, {}))
        return tables

    def test_clauses_that_began_behind_histories_of_unlike_lengths(self):
        for swapped, longer in itertools.product((False, True), (1, 2, 3)):
            history = (("e", 0),) + (("f", 0),) * longer
            first = {"ta": longer, "ua": 0}
            self.assertEqual(self.holds(*self.clauses_of_t_and_u(swapped, longer, first))[1:3], (("ask", "a"), history))
            # What is done last comes ahead of the history, whichever clause began first.
            for state, unlike in (("u", {"tb": longer, "ua": 0}), ("t", {"ta": longer, "ub": 0})):
                answer = int((state == "u") != swapped)
                told = self.holds(*self.clauses_of_t_and_u(swapped, longer, unlike))
                self.assertEqual(told[1:3], (("ask", "a"), (("e", answer),) + (("f", 0),) * longer))
            # A shorter history comes ahead of both.
            told = self.holds(*self.clauses_of_t_and_u(swapped, longer, {"tb": longer - 1, "ua": 0}))
            self.assertEqual(told[1:3], (("ask", "b"), (("e", int(swapped)),) + (("f", 0),) * (longer - 1)))

    def test_asks_come_ahead_of_the_history_that_led_to_them(self):
        # The same state comes behind the answer 1 and a first history, and behind the answer 0 and a later one.
        clauses = {("s", "a"): [("ask", "e", (1, 2)), ("answer", 1, "t"), ("answer", 0, "t")], ("t", "a"): [("answer", 0, "t")]}
        one = Handler({"a": 2}, {"e": 2}, "s", clauses, {})
        two = Handler({"a": 2}, {"e": 2}, "s", clauses, {("t", "x"): [("finish", "y")]})
        self.assertEqual(self.holds(one, two), ((("a", 0),), ("end", "x"), (("e", 1),), ("finish", "x"), ("finish", "y")))

    def test_histories_that_were_met_in_another_order(self):
        # The way by 1 is long in the first clause, the way by 0 in the second one.
        chain = [("ask", "f", (at + 1,)) for at in range(2, 6)]
        clauses = {("s", "a"): [("ask", "e", (1, 2)), ("answer", 0, "t")] + chain + [("answer", 0, "u")],
                   ("t", "a"): [("ask", "f", (at + 1,)) for at in range(4)] + [("answer", 0, "v")], ("u", "a"): [("answer", 0, "w")],
                   ("v", "a"): [("answer", 0, "v")], ("w", "a"): [("answer", 0, "w")]}
        two = Handler({"a": 1}, {"e": 2, "f": 1}, "s", clauses, {})
        for states, answer in (("vw", 0), ("v", 0), ("w", 1)):
            one = Handler({"a": 1}, {"e": 2, "f": 1}, "s", clauses, {(state, "x"): [("finish", "y")] for state in states})
            self.assertEqual(self.holds(one, two)[:3], ((("a", 0),) * 2, ("end", "x"), (("e", answer),) + (("f", 0),) * 4))

    def test_words_of_the_parting_body_are_those_of_no_clause(self):
        # Whatever short words the clauses know, the answers 0 and 1 are told apart by others.
        words = list("abcdefghijklmnop")
        for told in ({(state, word): [("finish", "same")] for state in "st" for word in words},
                     {("s", "z"): [("ask", "e", tuple(range(1, 7)))] + [("finish", word) for word in words[:6]]}):
            handlers = []
            for answer in (0, 1):
                clauses = {("s", "k"): [("answer", 0, "t")], ("t", "k"): [("answer", answer, "t")]}
                handlers.append(Handler({"k": 2}, {"e": 6}, "s", clauses, told))
            self.assertEqual(self.holds(*handlers)[:2], ((("k", 0),), ("ask", "k")))
        one = Handler({"k": 0}, {}, "s", {("s", "k"): [("finish", "a")]}, {})
        two = Handler({"k": 0}, {}, "s", {("s", "k"): [("finish", "b")]}, {("s", "z"): [("finish", "z")]})
        self.assertEqual(self.holds(one, two)[3:], (("finish", "a"), ("finish", "b")))
        three = Handler({"k": 1}, {}, "s", {("s", "k"): [("finish", "a")]}, {})
        self.assertEqual(self.holds(three, Handler({"k": 1}, {}, "s", {("s", "k"): [("answer", 0, "s")]}, {}))[3:], (("finish", "a"), ("answer", 0)))

    def test_operations_that_are_let_by(self):
        by = Handler({"a": 2}, {"a": 2}, "s", {("s", "a"): [("go", 2), ("answer", 0, "s"), ("ask", "a", (1, 3)), ("answer", 1, "s")]},
                     {("s", "x"): [("finish", "x")]})
        self.assertIsNone(self.holds(by, passing()))
        turned = Handler({"a": 2}, {"a": 2}, "s", {("s", "a"): [("ask", "a", (2, 1)), ("answer", 0, "s"), ("answer", 1, "s")]}, {})
        self.assertEqual(self.holds(turned, passing()), ((), ("ask", "a"), (("a", 0),), ("answer", 1), ("answer", 0)))
        never = Handler({"c": 0}, {"c": 0}, "s", {("s", "c"): [("ask", "c", ())]}, {})
        self.assertIsNone(self.holds(never, passing()))
        other = Handler({"c": 0}, {"d": 0}, "s", {("s", "c"): [("ask", "d", ())]}, {})
        self.assertEqual(self.holds(never, other), ((), ("ask", "c"), (), ("ask", "c"), ("ask", "d")))
        self.assertIsNone(self.holds(passing(), Handler({}, {"a": 3}, "z", {}, {})))

    def test_within_is_told_where_the_one_does_not_hang(self):
        dull = Handler({"coin": 2}, {}, "a", {("a", "coin"): [("answer", 1, "b")], ("b", "coin"): [("go", 0)]},
                       {("b", "good"): [("finish", "odd")]})
        self.assertEqual(self.holds(FLIP, dull), ((("coin", 1),), ("ask", "coin"), (), ("ask", "tell"), ("hang",)))
        self.assertIsNone(within_handlers(dull, FLIP))
        self.assertEqual(within_handlers(FLIP, dull), parted_handlers(FLIP, dull))
        # What comes behind a hang of the one is not looked at, though the other goes on there.
        less = Handler({"coin": 2}, {}, "a", {("a", "coin"): [("go", 0)], ("b", "coin"): [("finish", "q")]}, {})
        self.assertIsNone(within_handlers(less, FLIP))
        self.assertEqual(within_handlers(FLIP, less), ((), ("ask", "coin"), (), ("answer", 1), ("hang",)))
        over = Handler({"coin": 2}, {}, "a", {("a", "coin"): [("go", 0)]}, {("a", "good"): [("finish", "x")]})
        self.assertEqual(within_handlers(over, FLIP), ((), ("end", "good"), (), ("finish", "x"), ("finish", "good")))

    def test_mismatch_ahead_of_all_else(self):
        rows = [("go", 0)]
        calls = [parted_handlers, within_handlers, parting_body, state_pairs,
                 lambda one, other: state_pairs_fault(one, other, None)]
        for places in itertools.product(range(2), repeat=2):
            for operation, later in (("c", "d"), ("a", "z"), ("z", "zz")):
                tables = [[{"b": 1}, {"e": 1}], [{"b": 1}, {"f": 1}]]
                for name, many in ((later, 2), (operation, 3)):
                    tables[0][places[0]][name] = many
                    tables[1][places[1]][name] = many - 1
                one, other = (Handler(handles, further, "s", {("s", name): rows for name in handles}, {}) for handles, further in tables)
                for call in calls:
                    self.refused(Mismatch, lambda: call(one, other), operation)
                    self.refused(Mismatch, lambda: call(other, one), operation)

    def test_what_is_passed_is_not_changed(self):
        told = [(handler.clauses(), handler.ends(), handler.states()) for handler in (FLIP, LONG, passing())]
        for one, other in itertools.product((FLIP, LONG, passing()), repeat=2):
            for call in (parted_handlers, within_handlers, parting_body):
                self.assertEqual(call(one, other), call(one, other))
            self.assertEqual(least_handler(fused(one, other)), least_handler(fused(one, other)))
        self.assertEqual([(handler.clauses(), handler.ends(), handler.states()) for handler in (FLIP, LONG, passing())], told)

    def test_arguments_by_name(self):
        for call in (parted_handlers, within_handlers, parting_body):
            self.assertIsNone(call(other=FLIP, one=LONG))
        pairs = state_pairs(other=LONG, one=FLIP)
        self.assertEqual(pairs, [("high", "y"), ("low", "x"), ("low", "z")])
        self.assertIsNone(state_pairs_fault(pairs=pairs, other=LONG, one=FLIP))
        self.assertEqual(least_handler(handler=LONG), least_handler(FLIP))
        state_pairs(FLIP, LONG).clear()
        self.assertEqual(state_pairs(FLIP, LONG), pairs)


def most_asks(body):
    """The greatest number of asks of a run; the body has none without an end."""
    many = {}
    waiting = [body.start]
    while waiting:
        at = waiting[-1]
        row = body[at]
        nexts = {"ask": lambda row: row[2], "go": lambda row: row[1:]}.get(row[0], lambda row: ())(row)
        left = [following for following in nexts if following not in many]
        if left:
            assert len(waiting) <= len(body)
            waiting.append(left[0])
        else:
            many[waiting.pop()] = (row[0] == "ask") + max([many[following] for following in nexts], default=0)
    return many[body.start]


class Faults(Checks):
    def test_drawn_rows_of_pairs(self):
        chance = random.Random(105)
        found = set()
        for _ in range(300):
            one = drawn(chance)
            other = stirred(chance, one) if chance.random() < 0.7 else changed(chance, one)
            if parted_handlers(one, other) is None:
                row = [list(pair) if chance.random() < 0.5 else pair for pair in state_pairs(one, other)]
            else:
                row = [(one.start, other.start)]
            chance.shuffle(row)
            for _ in range(3):
                told = state_pairs_fault(one, other, row)
                self.assertEqual(told, sides.pairs_fault(one, other, row))
                self.assertEqual(state_pairs_fault(one, other, tuple(row)), told)
                found.add(told and told[0])
                what = chance.randrange(4)
                pair = (chance.choice(one.states()), chance.choice(other.states()))
                if what == 0 and row:
                    row.pop(chance.randrange(len(row)))
                elif what == 1 and row:
                    row[chance.randrange(len(row))] = pair
                elif what == 2 and row:
                    row.insert(chance.randrange(len(row) + 1), chance.choice(row))
                else:
                    row.insert(chance.randrange(len(row) + 1), pair)
        self.assertEqual(found, {None, "begin", "shows", "step"})

    def test_each_fault_ahead_of_the_later_ones(self):
        pairs = state_pairs(FLIP, LONG)
        self.assertIsNone(state_pairs_fault(FLIP, LONG, [*pairs[::-1], *pairs, ["low", "x"]]))
        self.assertEqual(state_pairs_fault(FLIP, LONG, []), ("begin",))
        self.assertEqual(state_pairs_fault(FLIP, LONG, [pairs[0], pairs[2]]), ("begin",))
        self.assertEqual(state_pairs_fault(FLIP, LONG, pairs[1:]), ("step", 0, ("ask", "coin"), ("high", "y")))
        self.assertEqual(state_pairs_fault(FLIP, LONG, pairs[:2]), ("step", 0, ("ask", "coin"), ("low", "z")))
        self.assertEqual(state_pairs_fault(FLIP, LONG, pairs + [("high", "z")]), ("shows", 3, ("ask", "coin")))
        self.assertEqual(state_pairs_fault(FLIP, LONG, [("high", "z")] + pairs[1:]), ("shows", 0, ("ask", "coin")))
        self.assertEqual(state_pairs_fault(FLIP, LONG, [("high", "z"), ("high", "s")]), ("pairs", 1))
        self.assertEqual(state_pairs_fault(FLIP, LONG, [("high", "z")]), ("begin",))
        # Another end comes behind the same asks: "shows" of the end, as the step of the ask does not lack.
        bare = Handler(FLIP.handled(), FLIP.further(), "low", FLIP.clauses(), {})
        self.assertEqual(state_pairs_fault(FLIP, bare, [("low", "low"), ("high", "high")]), ("shows", 1, ("end", "good")))
        self.assertEqual(state_pairs_fault(FLIP, bare, [("low", "low")]), ("step", 0, ("ask", "coin"), ("high", "high")))

    def test_shows_ahead_of_steps_and_the_first_pair_that_lacks(self):
        rows = [("ask", "e", (1, 2, 3)), ("answer", 0, "q"), ("answer", 0, "p"), ("answer", 1, "r")]
        clauses = {("s", "a"): rows, **{(state, "a"): [("answer", 0, state)] for state in "pqr"}}
        one = Handler({"a": 2}, {"e": 3}, "s", clauses, {})
        self.assertEqual(state_pairs_fault(one, one, [("s", "s")]), ("step", 0, ("ask", "a"), ("p", "p")))
        self.assertEqual(state_pairs_fault(one, one, [("s", "s"), ("p", "p")]), ("step", 0, ("ask", "a"), ("q", "q")))
        other = Handler({"a": 2}, {"e": 3}, "s", {**clauses, ("s", "a"): rows[:3] + [("answer", 0, "r")]}, {})
        self.assertEqual(state_pairs_fault(one, other, [("s", "s")]), ("shows", 0, ("ask", "a")))

    def test_no_row_and_no_pairs(self):
        for row in NO_ROWS:
            self.assertEqual(state_pairs_fault(FLIP, LONG, row), ("pairs", -1))
        pairs = state_pairs(FLIP, LONG)
        wrong = NOTHINGS + INTEGERS + ROWS + DICTS + ["lx", "low", 0, ("low",), ("low", "x", "x"), ("x", "low"), ("lost", "x"),
                                                      ("low", "low"), {"low": "x"}, [("low", "x")]]
        wrong += [(name, "x") for name in NO_NAMES] + [["low", name] for name in NO_NAMES]
        for pair in wrong:
            self.assertEqual(state_pairs_fault(FLIP, LONG, [pair]), ("pairs", 0))
            self.assertEqual(state_pairs_fault(FLIP, LONG, (*pairs, ["high", "z"], pair, None)), ("pairs", 4))
        row = [["low", "x"], ["high", "y"], ["low", "z"]]
        self.assertIsNone(state_pairs_fault(FLIP, LONG, row))
        self.assertEqual(row, [["low", "x"], ["high", "y"], ["low", "z"]])
