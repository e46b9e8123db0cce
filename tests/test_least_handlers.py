"""Section 10: the least handler that is alike to a handler."""

import itertools
import random
import string

from askfurther.fusing import fused
from askfurther.handlers import Handler, passing
from askfurther.likeness import least, parting_handler
from askfurther.bodies import Body
from askfurther.reach import unmet
from askfurther.sameness import least_handler, parted_handlers
from tests import sides
from tests.checks import Checks
from tests.test_sameness import FLIP, LONG, changed, deep, drawn, stirred


def rows_met(clause):
    """The indexes of the rows of a clause, as they are met breadth first, the answers in order."""
    found = [0]
    for at in found:
        row = clause[at]
        for following in row[2] if row[0] == "ask" else row[1:] if row[0] == "go" else ():
            if following not in found:
                found.append(following)
    return found


def lets_by(handler, state, does):
    """Whether a clause does just what a handler without it would do, up to states that are alike."""
    side = sides.Side(handler, sides.counts_of(handler))
    at, shows = side.rest(state, does, 0)
    if does[0] == "end":
        return shows == ("finish", does[1])
    if shows != does:
        return False
    for answer, index in enumerate(side.clause(state, does)[at][2]):
        behind, told = side.rest(state, does, index)
        if told != ("answer", answer):
            return False
        if not sides.alike_states(handler, handler, (state, side.clause(state, does)[behind][2])):
            return False
    return True


def unlike_rows(handler, state, does):
    """The number of rows of a clause that are not alike, of those that can be come to."""
    found = []
    for at in rows_met(sides.Side(handler, sides.counts_of(handler)).clause(state, does)):
        place = started_at(handler, state, does, at)
        if not any(sides.alike_states(place, other, ("zz", "zz")) for other in found):
            found.append(place)
    return len(found)


def started_at(handler, state, does, at):
    """A handler that is in the state "zz" and, when it is asked "zz", goes through a clause from one row on."""
    side = sides.Side(handler, sides.counts_of(handler))
    rows = (("go", at + 1),) + tuple(
        ("ask", row[1], tuple(index + 1 for index in row[2])) if row[0] == "ask" else
        ("go", row[1] + 1) if row[0] == "go" else row for row in side.clause(state, does))
    clauses = {**handler.clauses(), ("zz", "zz"): rows}
    handles = {**handler.handled(), "zz": 6}
    for other, name in itertools.product(handler.states() + ["zz"], handles):
        clauses.setdefault((other, name), (("go", 0),))
    return Handler(handles, handler.further(), "zz", clauses, handler.ends())


class Least(Checks):
    def holds(self, handler):
        """The least handler is alike, is told as section 10 tells it, and nothing of it can be left out."""
        small = least_handler(handler)
        self.assertIs(type(small), Handler)
        self.assertIsNone(sides.first_apart(small, handler, False))
        self.told_in_order(small)
        self.assertEqual(least_handler(small), small)
        met = sides.met_states(handler)
        kinds = []
        for state in met:
            if not any(sides.alike_states(handler, handler, (state, other)) for other in kinds):
                kinds.append(state)
        self.assertEqual(len(small.states()), len(kinds))
        kept = [name for name in handler.handled() if not all(lets_by(handler, state, ("ask", name)) for state in met)]
        self.assertEqual(small.handled(), {name: handler.handled()[name] for name in kept})
        asked = {row[1] for rows in [*small.clauses().values(), *small.ends().values()] for row in rows if row[0] == "ask"}
        self.assertEqual(small.further(), {name: many for name, many in handler.further().items() if name in asked})
        for state, word in small.ends():
            self.assertFalse(lets_by(small, state, ("end", word)))
        for state in small.states():
            self.assertEqual(Handler(small.handled(), small.further(), small.start, small.clauses(), small.ends()), small)
            for does in sides.deeds_of(small):
                if does[0] == "ask" or (state, does[1]) in small.ends():
                    rows = small[state, does[1]] if does[0] == "ask" else small.ends()[state, does[1]]
                    self.assertEqual(len(rows), unlike_rows(small, state, does))
        return small

    def told_in_order(self, small):
        names = [*string.ascii_lowercase, *map("".join, itertools.product(string.ascii_lowercase, repeat=2))]
        self.assertEqual(small.states(), sorted(names[:len(small.states())]))
        self.assertEqual(small.start, "a")
        found = ["a"]
        for state in found:
            for name in sorted(small.handled()):
                for row in small[state, name]:
                    if row[0] == "answer" and row[2] not in found:
                        found.append(row[2])
        self.assertEqual(found, names[:len(found)])
        self.assertEqual(len(found), len(small.states()))
        for rows in [*small.clauses().values(), *small.ends().values()]:
            self.assertEqual(rows_met(rows), list(range(len(rows))))
            for at, row in enumerate(rows):
                self.assertTrue(row[0] != "go" or row == ("go", at))

    def test_drawn(self):
        chance = random.Random(111)
        sizes = set()
        for _ in range(400):
            one = drawn(chance)
            small = self.holds(one)
            sizes.add((len(small.states()), len(small.handled())))
            self.assertEqual(least_handler(stirred(chance, one)), small)
            other = changed(chance, one)
            self.assertEqual(least_handler(other) == small, sides.first_apart(one, other, False) is None)
        self.assertLessEqual({(1, 0), (1, 1), (1, 2), (2, 1), (2, 2), (3, 2)}, sizes)

    def test_drawn_with_more_states(self):
        chance = random.Random(112)
        sizes = set()
        for _ in range(30):
            one, other = deep(chance)
            self.told_in_order(least_handler(one))
            sizes.add(len(least_handler(one).states()))
            self.assertEqual(least_handler(one) == least_handler(other), sides.first_apart(one, other, False) is None)
        self.assertGreater(max(sizes), 4)

    def test_made_by_hand(self):
        small = self.holds(LONG)
        self.assertEqual((small.handled(), small.further(), small.start), ({"coin": 2}, {"tell": 1}, "a"))
        self.assertEqual(small.clauses(), {("a", "coin"): (("answer", 1, "b"),),
                                           ("b", "coin"): (("ask", "tell", (1,)), ("answer", 0, "a"))})
        self.assertEqual(small.ends(), {("b", "good"): (("finish", "odd"),)})
        self.assertEqual(self.holds(FLIP), small)
        # Rows in the order in which they are met, alike ones told as one, a hang told by its own index.
        rows = [("go", 6), ("answer", 0, "u"), ("go", 5), ("answer", 0, "t"), ("finish", "x"), ("go", 2), ("ask", "e", (2, 1, 7)),
                ("ask", "e", (3, 3, 2))]
        clauses = {(state, "a"): [("answer", 0, state)] for state in "tu"}
        one = Handler({"a": 1}, {"e": 3, "f": 1}, "s", {("s", "a"): rows, **clauses},
                      {("t", "x"): [("finish", "y")], ("u", "x"): [("go", 1), ("finish", "x")]})
        self.assertEqual(self.holds(one).clauses(), {
            ("a", "a"): (("ask", "e", (1, 2, 3)), ("go", 1), ("answer", 0, "b"), ("ask", "e", (4, 4, 1)), ("answer", 0, "c")),
            ("b", "a"): (("answer", 0, "b"),), ("c", "a"): (("answer", 0, "c"),)})
        self.assertEqual(least_handler(one).ends(), {("c", "x"): (("finish", "y"),)})
        self.assertEqual(least_handler(one).further(), {"e": 3})

    def test_names_of_states_in_the_order_in_which_they_are_met(self):
        # The states are met by operations in order, and by the rows of a clause, not by their own names.
        clauses = {("m", "b"): [("answer", 0, "z")], ("m", "a"): [("ask", "e", (2, 1)), ("answer", 0, "p"), ("answer", 0, "q")]}
        clauses.update({(state, name): [("answer", 0, state)] for state in "pqz" for name in "ab"})
        one = Handler({"b": 1, "a": 1}, {"e": 2}, "m", clauses, {(state, "x"): [("finish", word)] for state, word in zip("mpqz", "zyxw")})
        small = self.holds(one)
        ends = {at[0]: rows[0][1] for at, rows in small.ends().items()}
        self.assertEqual(ends, {"a": "z", "c": "y", "d": "w"})
        self.assertEqual(small["a", "a"], (("ask", "e", (1, 2)), ("answer", 0, "b"), ("answer", 0, "c")))

    def test_what_is_let_by(self):
        by = {("s", "a"): [("ask", "a", (1, 2)), ("answer", 0, "t"), ("answer", 1, "s")],
              ("t", "a"): [("ask", "a", (1, 2)), ("answer", 0, "s"), ("answer", 1, "t")]}
        one = Handler({"a": 2}, {"a": 2}, "s", by, {("s", "x"): [("finish", "x")]})
        self.assertEqual(self.holds(one), passing())
        # Let by in one state alone, the other one being unlike by an end: then it is handled in both.
        other = Handler({"a": 2}, {"a": 2}, "s", {**by, ("t", "a"): by["s", "a"]}, {("t", "x"): [("finish", "y")]})
        self.assertEqual(self.holds(other).clauses(), {
            ("a", "a"): (("ask", "a", (1, 2)), ("answer", 0, "b"), ("answer", 1, "a")),
            ("b", "a"): (("ask", "a", (1, 2)), ("answer", 0, "b"), ("answer", 1, "a"))})
        # In a state in which it cannot be, it does not let by: that means nothing.
        lost = Handler({"a": 2}, {"a": 2}, "s", {**by, ("z", "a"): [("finish", "y")]}, {("z", "y"): [("go", 0)]})
        self.assertEqual(self.holds(lost), passing())
        never = Handler({"c": 0, "d": 0}, {"c": 0}, "s", {("s", "c"): [("go", 1), ("ask", "c", ())], ("s", "d"): [("ask", "c", ())]}, {})
        self.assertEqual(self.holds(never).handled(), {"d": 0})

    def test_states_beyond_z(self):
        # A counter of 7 within a counter of 8 has 56 states.
        counters = []
        for many, name, word in ((7, "tick", "x"), (8, "tock", "y")):
            states = ["s" + letter for letter in "abcdefgh"[:many]]
            clauses = {(state, name): [("answer", int(state == states[-1]), states[(at + 1) % many])] for at, state in enumerate(states)}
            counters.append(Handler({name: 2}, {}, states[0], clauses, {(states[-1], word): [("finish", "last")]}))
        both = fused(*counters)
        small = least_handler(both)
        self.told_in_order(small)
        self.assertEqual((len(small.states()), small.handled()), (56, {"tick": 2, "tock": 2}))
        self.assertEqual(least_handler(fused(*counters[::-1])), small)
        self.assertIsNone(parted_handlers(both, small))
        self.assertEqual(least_handler(fused(both, both)), least_handler(fused(small, both)))
        # One counter of 60 states in two copies, the second of which nobody comes to.
        one = Body({"a": 1}, [("ask", "a", [at + 1]) for at in range(60)] + [("end", "x")])
        handler = parting_handler(one, Body({"a": 1}, one.rows()[:60] + [("end", "y")]))
        small = least_handler(fused(handler, passing()))
        self.told_in_order(small)
        self.assertEqual(len(small.states()), 61)
        self.assertEqual(small["aa", "a"], (("answer", 0, "ab"),))
        self.assertEqual(unmet(small), [])

    def test_a_clause_is_as_a_least_body(self):
        chance = random.Random(113)
        for _ in range(200):
            rows = []
            for at in range(chance.randrange(1, 12)):
                rows.append(chance.choice([("ask", "e", None), ("ask", "f", None), ("go", None), ("end", "x"), ("end", "y")]))
            many = len(rows)
            counts = {"e": 2, "f": 1}
            rows = [row[:-1] + (tuple(chance.randrange(many) for _ in range(counts[row[1]])),) if row[0] == "ask" else
                    ("go", chance.randrange(many)) if row[0] == "go" else row for row in rows]
            clause = [("finish", row[1]) if row[0] == "end" else row for row in rows]
            small = least_handler(Handler({"a": 0}, counts, "s", {("s", "a"): clause}, {}))
            told = [("finish", row[1]) if row[0] == "end" else row for row in least(Body(counts, rows)).rows()]
            self.assertEqual(small["a", "a"], tuple(told))
