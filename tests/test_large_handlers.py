"""Section 10 with handlers as large as may be, and larger."""

import random
import time

from askfurther.bodies import Body
from askfurther.errors import Apart
from askfurther.fusing import fused, handled
from askfurther.handlers import Handler, passing
from askfurther.likeness import parted, parting_handler
from askfurther.sameness import (least_handler, parted_handlers, parting_body, state_pairs, state_pairs_fault,
                                 within_handlers)
from tests import sides
from tests.checks import Checks

STATES = ["s" + letter for letter in "abcdefgh"]
WORDS = ["x", "y"]


def large(chance, names, further, size=20):
    """A handler of 8 states with 8 operations, and clauses of so many rows, most of them asks."""
    clauses, ends = {}, {}
    for state in STATES:
        for name in [names + letter for letter in "abcdefgh"] + WORDS:
            rows = [("ask", further + chance.choice("abcdefgh"), [chance.randrange(size) for _ in range(6)]) for _ in range(size - 4)]
            if name in WORDS:
                ends[state, name] = rows + [("finish", chance.choice(WORDS)) for _ in range(4)]
            else:
                given = [("answer", chance.randrange(6), chance.choice(STATES)) for _ in range(3)]
                clauses[state, name] = rows + given + [("finish", chance.choice(WORDS))]
    counts = [{part + letter: 6 for letter in "abcdefgh"} for part in (names, further)]
    return Handler(*counts, "sa", clauses, ends)


def shuffled(chance, handler):
    """The handler with the rows of its clauses and its states told in another order."""
    names = dict(zip(handler.states(), chance.sample(handler.states(), len(handler.states()))))
    tables = []
    for table in (handler.clauses(), handler.ends()):
        tables.append({})
        for (state, name), rows in table.items():
            places = list(range(1, len(rows)))
            chance.shuffle(places)
            places = [0] + places
            told = [None] * len(rows)
            for at, row in enumerate(rows):
                if row[0] == "ask":
                    row = ("ask", row[1], [places[index] for index in row[2]])
                elif row[0] == "answer":
                    row = ("answer", row[1], names[row[2]])
                told[places[at]] = row
            tables[-1][names[state], name] = told
    return Handler(handler.handled(), handler.further(), names[handler.start], *tables)


def ring(many, further=(), marks=()):
    """A counter: asked "a" it answers 0 and is in the next state, at a mark 1; first it asks each of some further out."""
    clauses = {}
    names = [f"r{chr(97 + at // 26)}{chr(97 + at % 26)}" for at in range(many)]
    for at, name in enumerate(names):
        rows = [("ask", operation, (place + 1,)) for place, operation in enumerate(further)]
        clauses[name, "a"] = rows + [("answer", int(at in marks), names[(at + 1) % many])]
    return Handler({"a": 2}, {operation: 1 for operation in further}, names[0], clauses, {})


class Large(Checks):
    def setUp(self):
        self.begun = time.monotonic()

    def tearDown(self):
        self.assertLess(time.monotonic() - self.begun, 30)

    def test_all_states_and_rows(self):
        chance = random.Random(141)
        one = large(chance, "a", "b")
        other = shuffled(chance, one)
        self.assertIsNone(parted_handlers(one, other))
        self.assertIsNone(within_handlers(one, other))
        self.assertEqual(least_handler(one), least_handler(other))
        pairs = state_pairs(one, other)
        self.assertEqual(len(pairs), 8)
        self.assertIsNone(state_pairs_fault(one, other, pairs))
        for _ in range(10):
            table = other.clauses()
            at = chance.choice(sorted(table))
            rows = list(table[at])
            place = chance.randrange(len(rows))
            rows[place] = ("go", place)
            less = Handler(other.handled(), other.further(), other.start, {**table, at: rows}, other.ends())
            self.assertEqual(parted_handlers(one, less), sides.first_apart(one, less, False))
            self.assertIsNone(within_handlers(less, one))
            self.assertEqual(within_handlers(one, less), sides.first_apart(one, less, True))
            body = parting_body(one, less)
            if body is not None:
                self.assertIsNotNone(parted(handled(one, body), handled(less, body)))

    def test_rings_in_clauses(self):
        # Rings of 19 and 20 asks are alike: each pair of rows is come to.
        tables = []
        for many in (19, 20):
            rows = [("ask", "e", ((at + 1) % many,) * 6) for at in range(many)]
            tables.append({(state, "a" + letter): rows for state in STATES for letter in "abcdefgh"})
        handles = {"a" + letter: 6 for letter in "abcdefgh"}
        one, other = (Handler(handles, {"e": 6}, "sa", table, {}) for table in tables)
        self.assertIsNone(parted_handlers(one, other))
        self.assertIsNone(within_handlers(one, other))
        self.assertEqual(state_pairs(one, other), [("sa", "sa")])
        every = [(state, twin) for state in STATES for twin in STATES]
        self.assertIsNone(state_pairs_fault(one, other, every))
        self.assertEqual(least_handler(one)["a", "aa"], (("ask", "e", (0,) * 6),))

    def test_fused_ones(self):
        chance = random.Random(142)
        inner, outer = large(chance, "a", "b", 12), large(chance, "b", "c", 12)
        one, other = fused(inner, outer), fused(shuffled(chance, inner), shuffled(chance, outer))
        self.assertEqual(len(one.states()), 64)
        self.assertIsNone(parted_handlers(one, other))
        self.assertIsNone(within_handlers(one, other))
        small = least_handler(one)
        self.assertEqual(least_handler(other), small)
        self.assertIsNone(parted_handlers(small, one))
        pairs = state_pairs(one, small)
        self.assertEqual(len({pair[0] for pair in pairs}), 64)
        self.assertIsNone(state_pairs_fault(one, small, pairs))
        lost = [pair for pair in pairs if pair != (one.start, small.start)]
        self.assertEqual(state_pairs_fault(one, small, lost), ("begin",))
        clauses = outer.clauses()
        clauses["sh", "bh"] = [("finish", "zz") if row[0] == "finish" else row for row in clauses["sh", "bh"]]
        unlike = fused(inner, Handler(outer.handled(), outer.further(), "sa", clauses, outer.ends()))
        told = parted_handlers(one, unlike)
        self.assertEqual(told[3:], (("finish", told[3][1]), ("finish", "zz")))
        self.refused(Apart, lambda: state_pairs(one, unlike), told[0])
        body = parting_body(one, unlike)
        self.assertIsNotNone(parted(handled(outer, handled(inner, body)), handled(unlike, body)))

    def test_counters_that_are_parted_late(self):
        # Counters of 63 and of 64 states answer alike until both are at their ends at unlike times.
        one = fused(ring(8, "e", [7]), passing())
        other = ring(7, "e", [6])
        told = parted_handlers(one, other)
        self.assertEqual(told, ((("a", 0),) * 6, ("ask", "a"), (("e", 0),) * 7, ("answer", 0), ("answer", 1)))
        for many, asks in ((8, "eeeee"), (7, "e" * 18)):
            first = counters(8, many, asks, "a")
            second = counters(8, many, asks, "c")
            told = parted_handlers(first, second)
            self.assertEqual(told[0], (("a", 0),) * (8 * many - 1))
            self.assertEqual((told[1], told[3:]), (("end", "x"), (("finish", "a"), ("finish", "c"))))
            self.assertEqual(len(told[2]), (8 * many - 1) * len(asks) + (8 * many - 1) // 8 * len(asks))
            self.assertEqual(within_handlers(first, second), told)
            self.refused(Apart, lambda: state_pairs(first, second), told[0])
            self.assertIsNotNone(parted(*[handled(handler, parting_body(first, second)) for handler in (first, second)]))
        self.assertEqual(len(least_handler(first).states()), 56)

    def test_handlers_of_many_states(self):
        one = Body({"a": 2, "b": 2}, [("ask", "ab"[at % 2], [(at + 1) % 399, at]) for at in range(399)])
        other = Body({"a": 2, "b": 2}, [("ask", "a" if at == 399 else "ab"[at % 2], [(at + 1) % 400, at]) for at in range(400)])
        handler = parting_handler(one, other)
        self.assertGreater(len(handler.states()), 390)
        self.assertIsNone(parted_handlers(handler, fused(handler, passing())))
        small = least_handler(handler)
        self.assertIsNone(within_handlers(small, handler))
        self.assertEqual(len(state_pairs(handler, small)), len(small.states()))
        self.assertIsNone(state_pairs_fault(small, handler, state_pairs(small, handler)))
        turned = parting_handler(other, one)
        told = parted_handlers(handler, turned)
        self.assertEqual(len(told[0]), len(handler.states()) - 1)
        self.assertEqual(sorted(told[3:]), [("finish", "one"), ("finish", "other")])
        body = parting_body(handler, turned)
        ends = tuple(("end", word) for _, word in told[3:])
        self.assertEqual(parted(handled(handler, body), handled(turned, body)), ((), *ends))


def counters(many, others, asks, word):
    """A counter of so many states that tells another one of each of its rounds, and ends at the last state of both."""
    inner = Handler({"a": 1, "b": 1}, {"b": 1, "e": 1}, "sa", {**{(state, "b"): [("finish", "q")] for state in STATES[:many]}, **{
        (state, "a"): [("ask", "e", (at + 1,)) for at in range(len(asks))]
        + ([("ask", "b", (len(asks) + 1,))] if state == STATES[many - 1] else [])
        + [("answer", 0, STATES[(STATES.index(state) + 1) % many])] for state in STATES[:many]
    }}, {(STATES[many - 1], "x"): [("finish", "last")], **{(state, "last"): [("finish", "x")] for state in STATES[:many]}})
    outer = Handler({"b": 1}, {"e": 1}, "sa", {
        (state, "b"): [("ask", "e", (at + 1,)) for at in range(len(asks))]
        + [("answer", 0, STATES[(STATES.index(state) + 1) % others])] for state in STATES[:others]
    }, {(STATES[others - 1], "last"): [("finish", word)], **{(state, "last"): [("finish", "x")] for state in STATES[:others - 1]}})
    return fused(inner, outer)
