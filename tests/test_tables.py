"""Section 13: what may come of works, exactly."""

import random
import time

from askfurther.bodies import Body, shown
from askfurther.errors import BadHistory, NoEntry, Recursive, TooLong, TooMany
from askfurther.fusing import fused, handled
from askfurther.handlers import Handler, passing
from askfurther.likeness import least, parted
from askfurther.rights import rights
from askfurther.sameness import least_handler
from askfurther.tables import clauses_met, entries, exits, leaves, least_asks, shown_by, unrolled, way_out
from askfurther.works import Work
from tests.checks import Checks
from tests.models import histories, random_rows
from tests.odd import DICTS, INTEGERS, NO_NAMES, NO_ROWS, NOTHINGS, ROWS
from tests.plain_works import Plain, Rounds, random_functions, random_handler
from tests.test_sameness import stirred

COUNTS = {"a": 2, "b": 1, "c": 3, "d": 2}
WORDS = ["x", "y", "z"]
SHOWS = [("ask", name) for name in COUNTS] + [("end", word) for word in WORDS] + [("hang",)]
STATES = ["s" + letter for letter in "abcdefgh"]
COUNT = Handler({"tick": 2}, {"ring": 1}, "a",
                {("a", "tick"): [("answer", 0, "b")], ("b", "tick"): [("ask", "ring", (1,)), ("answer", 1, "a")]},
                {("b", "done"): [("finish", "odd")]})
MAIN = ("main", [("handle", "count", "walk", {"done": 1}), ("ask", "coin", (0, 2)), ("end", "even")])
WALK = ("walk", [("ask", "coin", (1, 2)), ("end", "done"), ("ask", "tick", (3, 1)), ("call", "walk", {"done": 1})])
WORK = Work({"coin": 2, "tick": 2, "ring": 1}, {"count": COUNT}, [MAIN, WALK])


def drawn_handlers(chance):
    found = {}
    for name in ["p", "q", "r"][:chance.randrange(1, 4)]:
        handles = {key: COUNTS[key] for key in chance.sample(sorted(COUNTS), chance.randrange(1, 3))}
        further = {key: COUNTS[key] for key in chance.sample(sorted(COUNTS), chance.randrange(3))}
        states = ["s", "t", "u"][:chance.randrange(1, 4)]
        found[name] = Handler(*random_handler(chance, handles, further, ["x", "y"], states, 3))
    return found


def drawn(chance, recursive=True):
    handlers = drawn_handlers(chance)
    return Work(COUNTS, handlers, random_functions(chance, COUNTS, handlers, chance.choice([1, 2, 3, 3, 4, 4, 5]), chance.choice([4, 6, 8]), WORDS, recursive))


def rich(chance):
    """A work that asks without again and again, so that much of it comes: three functions in two handlers, recursive."""
    handlers = {}
    for name, handles, further in (("p", {"a": 2}, {"c": 3}), ("q", {"b": 1, "a": 2}, {"a": 2, "d": 2})):
        handlers[name] = Handler(*random_handler(chance, handles, further, WORDS, ["s", "t", "u"], 3))

    def rows(*told):
        found = []
        for row in told:
            nexts = tuple(chance.randrange(len(told)) for _ in range(COUNTS.get(row[1], 0)))
            words = {word: chance.randrange(len(told)) for word in WORDS if chance.random() < 0.5}
            found.append(row + (nexts,) if row[0] == "ask" else row + (words,) if row[0] in ("call", "handle") else row)
        return found

    def end():
        return ("end", chance.choice(WORDS))

    first = rows(("handle", "p", "f"), ("ask", "c"), ("call", "g"), end(), ("ask", "d"))
    second = rows(("ask", "c"), ("ask", "a"), ("handle", "q", "g"), ("call", "f"), end(), end())
    third = rows(("ask", "d"), ("ask", "b"), ("ask", "a"), chance.choice([("call", "g"), ("ask", "a")]), end(), end())
    return Work(COUNTS, handlers, [("main", first), ("f", second), ("g", third)])


class Tables(Checks):
    def test_drawn_against_all_places(self):
        chance = random.Random(161)
        seen = [0, 0, 0]
        for number in range(600):
            work = rich(chance) if number % 2 else drawn(chance)
            rounds = Rounds(work)
            if len(rounds.points) > 4000:
                continue
            self.assertEqual(entries(work), sorted(rounds.entries))
            for function, stack in rounds.entries:
                told = exits(work, function, stack)
                self.assertEqual(told, sorted(rounds.exits.get((function, stack), ())))
                self.assertEqual(exits(work, function, [list(pair) for pair in stack]), told)
                seen = [many + (len(told) > least_many) for many, least_many in zip(seen, (0, 2, 4))]
            operations, words, _ = leaves(work)
            self.assertEqual((operations, words), (sorted(rounds.asked), sorted(told[1] for told in rounds.exits.get(("main", ()), ()))))
            begun, ended = set(), set()
            for _, stack, _, chain in rounds.points:
                begun |= {stack[link[0]] + (link[1],) for link in chain if len(link) == 3}
                ended |= {link[:3] for link in chain if len(link) == 4}
            self.assertEqual(clauses_met(work), (sorted(begun), sorted(ended)))
        self.assertGreater(min(seen), 10)

    def test_drawn_against_runs(self):
        chance = random.Random(162)
        seen = {}
        for number in range(500):
            work = rich(chance) if number % 4 == 0 else drawn(chance)
            plain = Plain(work)
            shortest = {}
            for history, shows in histories(plain, plain.shown, 5):
                self.assertEqual(shown_by(work, history), shows)
                shortest[shows] = min(len(history), shortest.get(shows, 9))
            self.assertEqual(leaves(work)[2], least_asks(work, ("hang",)) is not None)
            for shows in SHOWS:
                many = least_asks(work, shows)
                if shows in shortest:
                    self.assertEqual(many, shortest[shows])
                else:
                    self.assertTrue(many is None or many > 5)
                if many is None:
                    self.assertIsNone(way_out(work, shows))
                    self.assertFalse(shows[0] != "hang" and shows[1] in leaves(work)[0] + leaves(work)[1] and shows[0] == "end")
                else:
                    way = way_out(work, list(shows))
                    self.assertEqual((len(way), shown_by(work, way)), (many, shows))
                    seen[shows[0], min(many, 3)] = True
        self.assertEqual(len(seen), 12)

    def test_drawn_without_recursion(self):
        chance = random.Random(163)
        deep = 0
        for _ in range(400):
            work = drawn(chance, False)
            plain = Plain(work)
            shows, stands = plain.walk()
            body = unrolled(work)
            deep += any(isinstance(stand[0], tuple) and len(stand) > 2 for stand in stands)
            for history, told in histories(plain, plain.shown, 4):
                self.assertEqual(shown(body, history), told)
            self.assertEqual(body.operations(), plain.counts)
            self.assertEqual(entries(work), sorted(plain.entries))
            for entry in plain.entries:
                self.assertEqual(exits(work, *entry), sorted(told for at, told in plain.exits if at == entry))
            self.assertEqual(clauses_met(work), (sorted(plain.begun), sorted(plain.begun_ends)))
            for told in SHOWS:
                self.assertEqual(least_asks(work, told), shows.get(told))
            asked = sorted(told[1] for told in shows if told[0] == "ask")
            self.assertEqual(leaves(work), (asked, sorted(told[1] for told in shows if told[0] == "end"), ("hang",) in shows))
        self.assertGreater(deep, 20)

    def test_all_that_is_asked_is_among_the_rights(self):
        chance = random.Random(164)
        for number in range(300):
            work = rich(chance) if number % 2 else drawn(chance)
            self.assertLessEqual(set(leaves(work)[0]), set(rights(work)["main"]))

    def test_kinds_of_what_is_told(self):
        told = leaves(WORK)
        self.assertEqual((type(told), [type(part) for part in told]), (tuple, [list, list, bool]))
        self.assertEqual((type(clauses_met(WORK)), [type(part) for part in clauses_met(WORK)]), (tuple, [list, list]))
        for call in (entries, lambda work: exits(work, "main", ()), lambda work: leaves(work)[0], lambda work: clauses_met(work)[1]):
            kept = call(WORK)
            self.assertIs(type(kept), list)
            call(WORK).clear()
            self.assertEqual(call(WORK), kept)

    def test_the_example_in_other_words(self):
        self.assertEqual(exits(WORK, "main", []), [("end", "even", ()), ("end", "odd", ())])
        self.assertEqual(clauses_met(WORK), ([("count", "a", "tick"), ("count", "b", "tick")], [("count", "b", "done")]))
        self.assertEqual(exits(stack=(), function="main", work=WORK), exits(WORK, "main", ()))
        self.assertEqual(shown_by(history=[["coin", 1]], work=WORK), ("ask", "coin"))
        self.assertEqual(least_asks(shows=["end", "odd"], work=WORK), 2)
        self.assertEqual(way_out(shows=("hang",), work=WORK), None)
        self.assertEqual((entries(work=WORK), leaves(work=WORK), clauses_met(work=WORK)), (entries(WORK), leaves(WORK), clauses_met(WORK)))
        self.refused(Recursive, lambda: unrolled(work=WORK), "walk")

    def test_what_a_clause_asks_is_asked_of_the_handlers_around(self):
        inner = Handler({"a": 1}, {"a": 1}, "s", {("s", "a"): [("ask", "a", (1,)), ("answer", 0, "t")], ("t", "a"): [("finish", "x")]},
                        {("t", "y"): [("ask", "a", (1,)), ("finish", "z")]})
        functions = [("main", [("handle", "p", "f", {"x": 1}), ("end", "x")]), ("f", [("handle", "p", "g", {"z": 1}), ("ask", "a", (0,))]),
                     ("g", [("ask", "a", (1,)), ("end", "y")])]
        work = Work({"a": 1}, {"p": inner}, functions)
        plain = Plain(work)
        for history, shows in histories(plain, plain.shown, 6):
            self.assertEqual(shown_by(work, history), shows)
        # The inner "a" asks the outer one, which asks without; the clause of ends asks the outer one again: it finishes.
        self.assertEqual(shown_by(work, []), ("ask", "a"))
        self.assertEqual(shown_by(work, [("a", 0)]), ("end", "x"))
        self.assertEqual(exits(work, "g", [("p", "s"), ("p", "s")]), [("end", "y", (("p", "t"), ("p", "t")))])
        self.assertEqual(exits(work, "f", [("p", "s")]), [("finish", 0, "x", ())])


class Hangs(Checks):
    def holds(self, functions, handlers=None, counts=None):
        work = Work(counts or {"coin": 2}, handlers or {}, functions)
        self.assertEqual(leaves(work)[2], True)
        many = least_asks(work, ("hang",))
        self.assertEqual(shown_by(work, way_out(work, ("hang",))), ("hang",))
        return many, work

    def test_more_and_more_calls_are_open(self):
        self.assertEqual(self.holds([("main", [("call", "f", {})]), ("f", [("call", "f", {})])])[0], 0)
        many, work = self.holds([("main", [("call", "f", {})]), ("f", [("go", 1), ("call", "g", {"x": 0})]), ("g", [("call", "f", {})])])
        self.assertEqual((many, leaves(work)), (0, ([], [], True)))
        self.assertEqual(len(entries(work)), 3)

    def test_calls_that_end_again_and_again(self):
        many, work = self.holds([("main", [("ask", "coin", (1, 2)), ("call", "f", {"x": 1}), ("end", "y")]), ("f", [("end", "x")])])
        self.assertEqual((many, leaves(work)), (1, (["coin"], ["y"], True)))
        self.assertEqual((shown_by(work, [("coin", 0)]), shown_by(work, [("coin", 1)])), (("hang",), ("end", "y")))
        self.refused(BadHistory, lambda: shown_by(work, [("coin", 0), ("coin", 0)]), 1)

    def test_clauses_that_hang(self):
        rows = [("go", 1), ("go", 0)]
        handler = Handler({"a": 1}, {}, "s", {("s", "a"): rows}, {("s", "x"): rows})
        for word in ("a", "x"):
            row = ("ask", "a", (1,)) if word == "a" else ("end", "x")
            many, work = self.holds([("main", [("ask", "coin", (1, 2)), ("end", "y"), ("handle", "p", "f", {})]), ("f", [row, ("end", "z")])],
                                    {"p": handler}, {"coin": 2, "a": 1})
            self.assertEqual((many, leaves(work)[:2]), (1, (["coin"], ["y"])))

    def test_deep_calls_that_come_back_do_not_hang(self):
        # A counter of 64 states in two handlers: as many calls are open, and all of them end again.
        work = odometer([("ask", "down", (1, 3)), ("call", "f", {"x": 2}), ("end", "x"), ("end", "x")])
        self.assertEqual(leaves(work), ([], ["over"], False))
        self.assertEqual(shown_by(work, ()), ("end", "over"))


def odometer(rows, main=None, counts=None):
    """A function within two counters of 8 states each: "down" answers 1 if both are at 0, otherwise counts down."""
    low = {}
    for at, state in enumerate(STATES):
        low[state, "down"] = [("answer", 0, STATES[at - 1])] if at else [("ask", "carry", (1, 2)), ("answer", 0, "sh"), ("answer", 1, "sa")]
        low[state, "up"] = [("answer", 0, STATES[at + 1])] if at < 7 else [("ask", "over", (1,)), ("answer", 0, "sa")]
    high = {}
    for at, state in enumerate(STATES):
        high[state, "carry"] = [("answer", 0, STATES[at - 1])] if at else [("answer", 1, "sa")]
        high[state, "over"] = [("answer", 0, STATES[(at + 1) % 8])]
    handlers = {"low": Handler({"down": 2, "up": 1}, {"carry": 2, "over": 1}, "sh", low, {}),
                "high": Handler({"carry": 2, "over": 1}, {}, "sh", high, {})}
    own = {"down": 2, "up": 1, "coin": 2, **(counts or {})}
    return Work(own, handlers, [("main", main or [("handle", "high", "g", {"x": 1}), ("end", "over")]),
                                ("g", [("handle", "low", "f", {})]), ("f", rows)])


def links(numbers, last, more=()):
    """Functions each of which runs the next one as often as told; the last one does these rows."""
    names = ["main", "f", "g", "h", "i"][:len(numbers)] + ["j"]
    functions = [(name, [("call", following, {"x": at + 1}) for at in range(many)] + [("end", "x")])
                 for name, following, many in zip(names, names[1:], numbers)]
    return Work({"coin": 2, "ring": 1}, {}, functions + [("j", list(last)), *more])


class Numbers(Checks):
    def test_powers(self):
        # Each level asks twice what the one below does.
        rows = [("ask", "down", (1, 4)), ("call", "f", {"x": 2}), ("call", "f", {"x": 3}), ("ask", "up", (5,)),
                ("ask", "coin", (5, 4)), ("end", "x")]
        work = odometer(rows)
        self.assertEqual(least_asks(work, ("end", "over")), 2 ** 63)
        self.refused(TooLong, lambda: way_out(work, ("end", "over")), 2 ** 63)
        self.assertEqual((least_asks(work, ("ask", "coin")), way_out(work, ("ask", "coin"))), (0, ()))
        self.assertEqual(leaves(work), (["coin"], ["over"], False))
        self.assertEqual(shown_by(work, [("coin", 0)] * 100), ("ask", "coin"))
        self.assertEqual(shown_by(work, [("coin", 1)] * 100 + [("coin", 0)] * 1400), ("ask", "coin"))
        main = [("handle", "high", "g", {"x": 1}), ("ask", "ring", (2,)), ("end", "over")]
        work = odometer(rows, main, {"ring": 1})
        self.assertEqual((least_asks(work, ("ask", "ring")), least_asks(work, ("end", "over"))), (2 ** 63, 2 ** 63 + 1))
        self.refused(TooLong, lambda: way_out(work, ["ask", "ring"]), 2 ** 63)

    def test_products(self):
        coin = [("ask", "coin", (1, 0)), ("end", "x")]
        work = links([59] * 5, coin)
        self.assertEqual(least_asks(work, ("end", "x")), 59 ** 5)
        self.refused(TooLong, lambda: way_out(work, ("end", "x")), 59 ** 5)
        for numbers, many in (([20, 20], 400), ([4, 4, 5, 5], 400), ([1, 1, 1, 1, 1], 1), ([59, 7], 413)):
            work = links(numbers, coin)
            self.assertEqual(least_asks(work, ("end", "x")), many)
            if many <= 400:
                self.assertEqual(way_out(work, ("end", "x")), (("coin", 0),) * many)
                self.assertEqual(shown_by(work, [("coin", 0)] * (many - 1)), ("ask", "coin"))
                self.assertEqual(least(unrolled(work)), least(Body({"coin": 2}, [("ask", "coin", (at + 1, at)) for at in range(many)] + [("end", "x")]))
                                 if many < 400 else least(unrolled(work)))
            else:
                self.refused(TooLong, lambda: way_out(work, ("end", "x")), many)
        work = Work({"coin": 2}, {}, [("main", [("call", "f", {"x": 1}), ("ask", "coin", (2, 1)), ("end", "y")]),
                                      ("f", [("call", "g", {"x": at + 1}) for at in range(20)] + [("end", "x")]),
                                      ("g", [("call", "h", {"x": at + 1}) for at in range(20)] + [("end", "x")]), ("h", coin)])
        self.refused(TooLong, lambda: way_out(work, ("end", "y")), 401)
        self.assertEqual(len(way_out(work, ("ask", "coin"))), 0)

    def test_many_steps_without_an_ask(self):
        begun = time.monotonic()
        # 59 ** 5 runs of the last function, each of some steps, between two asks.
        work = links([59] * 5, [("go", 1), ("go", 2), ("end", "x")])
        self.assertEqual((leaves(work), shown_by(work, ()), least_asks(work, ("end", "x"))), (([], ["x"], False), ("end", "x"), 0))
        self.assertEqual((way_out(work, ("end", "x")), least(unrolled(work)).rows()), ((), [("end", "x")]))
        functions = dict(links([59] * 4, [("end", "x")]).functions())
        functions["f"] = [("ask", "coin", (1, 0))] + [("call", "g", {"x": at + 2}) for at in range(50)] + [("ask", "ring", (52,)), ("end", "x")]
        work = Work({"coin": 2, "ring": 1}, {}, list(functions.items()))
        history = [element for at in range(500) for element in (("coin", 1), ("coin", 0), ("ring", 0))][:3 * 59]
        self.assertEqual(shown_by(work, history), ("end", "x"))
        self.assertEqual(shown_by(work, history[:-1]), ("ask", "ring"))
        self.assertEqual((least_asks(work, ("end", "x")), way_out(work, ("end", "x"))), (118, (("coin", 0), ("ring", 0)) * 59))
        self.assertLess(time.monotonic() - begun, 20)

    def test_calls_as_deep_as_histories_lead(self):
        begun = time.monotonic()
        deep = [("ask", "coin", (1, 3)), ("call", "f", {"x": 2}), ("ask", "ring", (3,)), ("end", "x")]
        work = Work({"coin": 2, "ring": 1}, {}, [("main", [("call", "f", {"x": 1}), ("end", "y")]), ("f", deep)])
        down = [("coin", 0)] * 1500
        self.assertEqual(shown_by(work, down), ("ask", "coin"))
        self.assertEqual(shown_by(work, down + [("coin", 1)]), ("ask", "ring"))
        self.assertEqual(shown_by(work, down + [("coin", 1)] + [("ring", 0)] * 1499), ("ask", "ring"))
        self.assertEqual(shown_by(work, down + [("coin", 1)] + [("ring", 0)] * 1500), ("end", "y"))
        self.refused(BadHistory, lambda: shown_by(work, down + [("coin", 1)] + [("ring", 0)] * 1501), 3001)
        self.refused(BadHistory, lambda: shown_by(work, down + [("ring", 0)]), 1500)
        # All open calls end at once when a handler finishes.
        handler = Handler({"stop": 0}, {}, "s", {("s", "stop"): [("finish", "z")]}, {})
        deep = [("ask", "coin", (1, 2)), ("call", "f", {"x": 2}), ("ask", "stop", ())]
        work = Work({"coin": 2, "stop": 0}, {"p": handler}, [("main", [("handle", "p", "f", {"z": 1}), ("end", "y")]), ("f", deep)])
        self.assertEqual(shown_by(work, down + [("coin", 1)]), ("end", "y"))
        self.assertEqual(leaves(work), (["coin"], ["y"], False))
        self.assertLess(time.monotonic() - begun, 20)


class Bounds(Checks):
    CALLS = [entries, leaves, clauses_met, unrolled, lambda work: exits(work, None, None), lambda work: shown_by(work, None),
             lambda work: least_asks(work, None), lambda work: way_out(work, None), lambda work: exits(work, "main", ()),
             lambda work: shown_by(work, ()), lambda work: least_asks(work, ("hang",)), lambda work: way_out(work, ("hang",))]

    def points(self, many, tail=()):
        """A work with so many points: 64 pairs of states for each row of f and for both its clauses, some rows of main."""
        ring = {(state, name): [("answer", 0, STATES[(at + 1) % 8])] for at, state in enumerate(STATES) for name in "pq"}
        handlers = {name: Handler({name: 1}, {}, "sa", {at: rows for at, rows in ring.items() if at[1] == name}, {}) for name in "pq"}
        main = [("go", at + 1) for at in range(many - 3970)] + [("handle", "p", "g", {})]
        rows = [("ask", "coin", (1, 2, 3)), ("ask", "p", (0,)), ("ask", "q", (0,))] + [("go", at + 1) for at in range(3, 59)] + [("end", "x")]
        return Work({"coin": 3, "p": 1, "q": 1}, handlers, [("main", main), ("g", [("handle", "q", "f", {})]), ("f", rows), *tail])

    def test_4000_points_and_4001(self):
        work = self.points(4000)
        self.assertEqual(len(Rounds(work).points), 4000)
        self.assertEqual((len(entries(work)), leaves(work)), (3, (["coin"], ["x"], False)))
        self.assertEqual(len(exits(work, "f", [("p", "sa"), ("q", "sa")])), 64)
        self.assertEqual((shown_by(work, [("coin", 2)]), least_asks(work, ("end", "x"))), (("end", "x"), 1))
        self.assertEqual((way_out(work, ("end", "x")), len(unrolled(work))), ((("coin", 2),), 2))
        self.refused(NoEntry, lambda: exits(work, None, None))
        self.refused(BadHistory, lambda: shown_by(work, None), -1)
        for work in (self.points(4001), self.points(4020)):
            for call in self.CALLS:
                self.refused(TooMany, lambda: call(work), 4000)

    def test_recursive_ahead_of_too_many(self):
        for many in (3999, 4000):
            work = self.points(many, [("i", [("end", "x")]), ("h", [("call", "i", {}), ("call", "h", {})])])
            self.refused(Recursive, lambda: unrolled(work), "h")
        self.refused(Recursive, lambda: unrolled(self.points(4020, [("h", [("call", "i", {})]), ("i", [("call", "h", {})])])), "h")

    def stands(self, last, rows=(), outer=50, inner=40):
        """A work with outer * inner * 2 stands where the coin is asked."""
        main = [("call", "f", {"x": at + 1}) for at in range(outer - 1)] + [("call", "f", {"x": last})] + list(rows)
        middle = [("call", "g", {"x": at + 1}) for at in range(inner)] + [("end", "x")]
        return Work({"coin": 2}, {}, [("main", main), ("f", middle), ("g", [("ask", "coin", (1, 1)), ("ask", "coin", (2, 0)), ("end", "x")])])

    def test_4000_stands_and_4001(self):
        work = self.stands(0)
        body = unrolled(work)
        self.assertEqual(least(body).rows(), [("ask", "coin", (0, 0))])
        self.assertEqual(len(Plain(self.stands(0, outer=5, inner=4)).walk()[1]), 40)
        self.assertEqual(len(Plain(self.stands(5, [("end", "x")], 5, 4)).walk()[1]), 41)
        self.assertEqual(len(Plain(self.stands(5, [("go", 5)], 5, 4)).walk()[1]), 41)
        # The word with which the work ends is one more, and so is a hang.
        self.refused(TooMany, lambda: unrolled(self.stands(50, [("end", "x")])), 4000)
        self.refused(TooMany, lambda: unrolled(self.stands(50, [("go", 50)])), 4000)
        ask = [("ask", "coin", (0, 0))]
        self.refused(TooMany, lambda: unrolled(self.stands(50, ask)), 4000)
        self.assertEqual(leaves(self.stands(50, [("end", "x")])), (["coin"], ["x"], False))
        self.assertEqual(least_asks(self.stands(50, [("go", 50)]), ("hang",)), 4000)

    def test_recursive_names_the_first_function(self):
        def work(*functions):
            return Work({"coin": 2}, {"p": passing()}, [("main", [("end", "x")]), *functions])

        end = ("end", "x")
        self.refused(Recursive, lambda: unrolled(work(("g", [("call", "f", {})]), ("f", [end, ("call", "f", {})]))), "f")
        self.refused(Recursive, lambda: unrolled(work(("g", [("call", "f", {})]), ("f", [end, ("call", "g", {})]))), "g")
        self.refused(Recursive, lambda: unrolled(work(("g", [("handle", "p", "f", {})]), ("f", [end, ("call", "h", {})]),
                                                      ("h", [("call", "h", {})]))), "h")
        self.assertEqual(unrolled(work(("g", [("call", "f", {}), ("handle", "p", "f", {})]), ("f", [end]))).rows(), [end])


class Wrong(Checks):
    def test_no_entry(self):
        right = [("count", "b")]
        self.assertEqual(len(exits(WORK, "walk", right)), 2)
        for function in NO_NAMES + ["main", "count", "coin", "f"]:
            self.refused(NoEntry, lambda: exits(WORK, function, right))
        wrong = NOTHINGS + INTEGERS + ROWS + DICTS + [
            (), ["count", "b"], ("count", "b"), [("count", "c")], [("walk", "b")], [("count",)], [("count", "b", "b")], [("count", "b"), ("count", "b")],
            [{"count": "b"}], {("count", "b"): 1}, [("b", "count")], ["cb"], [["count", ["b"]]], [[("count", "b")]], [None], [("count", None)]]
        for stack in wrong:
            self.refused(NoEntry, lambda: exits(WORK, "walk", stack))
        for stack in NOTHINGS + INTEGERS + DICTS + [right, [()], [[]], "", 0, {}]:
            self.refused(NoEntry, lambda: exits(WORK, "main", stack))
        for name in NO_NAMES:
            self.refused(NoEntry, lambda: exits(WORK, "walk", [(name, "b")]))
            self.refused(NoEntry, lambda: exits(WORK, "walk", (["count", name],)))

    def test_bad_history(self):
        for history in NO_ROWS:
            self.refused(BadHistory, lambda: shown_by(WORK, history), -1)
        wrong = NOTHINGS + INTEGERS + ROWS + DICTS + [("coin", 2), ("coin", -1), ("coin", True), ("tick", 0), ("ring", 1), ("coin",),
                                                      ("coin", 0, 0), "coin", {"coin": 0}]
        for element in wrong:
            self.refused(BadHistory, lambda: shown_by(WORK, [element]), 0)
            self.refused(BadHistory, lambda: shown_by(WORK, (("coin", 1), ["coin", 1], element, ("ring", 0))), 2)
        self.refused(BadHistory, lambda: shown_by(WORK, [("coin", 1), ("coin", 0), ("coin", 0)]), 2)

    def test_shows_that_never_come(self):
        wrong = NOTHINGS + INTEGERS + ROWS + DICTS + ["coin", "hang", ("hang",), ["hang"], ("end", "done"), ("end", "coin"), ("ask", "tick"), ("ask", "even"),
                                                      ("ask", "coin", ()), ("end",), ("end", None), ("end", ["even"]), ("go", "even"), ("finish", "even"), ("even", "end"), (["end"], "even"), {"end": "even"}]
        for shows in wrong:
            self.assertIsNone(least_asks(WORK, shows))
            self.assertIsNone(way_out(WORK, shows))


class Alike(Checks):
    def function(self, name, body):
        return (name, [("go", body.start + 1)] + [shifted(row) for row in body.rows()])

    def test_a_body_within_handlers(self):
        chance = random.Random(165)
        for _ in range(200):
            handlers = drawn_handlers(chance)
            around = [chance.choice(sorted(handlers)) for _ in range(chance.randrange(4))]
            body = Body(COUNTS, random_rows(chance, COUNTS, 6, WORDS), start=chance.randrange(6))
            names = ["main", "f", "g", "h"][:len(around) + 1]
            functions = [(name, [("handle", handler, following, {})]) for name, handler, following in zip(names, around, names[1:])]
            work = Work(COUNTS, handlers, functions + [self.function(names[-1], body)])
            whole, both = body, passing()
            for name in reversed(around):
                whole, both = handled(handlers[name], whole), fused(both, handlers[name])
            self.assertIsNone(parted(unrolled(work), whole))
            self.assertIsNone(parted(unrolled(work), handled(both, body)))
            self.assertEqual(least(unrolled(work)), least(whole))
            one = Work(COUNTS, {"all": both}, [("main", [("handle", "all", "f", {})]), self.function("f", body)])
            self.assertEqual(least(unrolled(one)), least(whole))

    def test_bodies_one_behind_another(self):
        chance = random.Random(166)
        for _ in range(200):
            bodies = [Body(COUNTS, random_rows(chance, COUNTS, 6, WORDS), start=chance.randrange(6)) for _ in range(3)]
            main = [("call", "f", {"x": 1, "y": 2}), ("call", "g", {"z": 3}), ("call", "h", {"x": 3}), ("end", "x")]
            work = Work(COUNTS, {}, [("main", main)] + [self.function(name, body) for name, body in zip("fgh", bodies)])
            end = Body({}, [("end", "x")])
            whole = bodies[0].then({"x": bodies[1].then({"z": end}), "y": bodies[2].then({"x": end})})
            self.assertIsNone(parted(unrolled(work), whole))

    def test_handlers_that_are_alike_in_the_place_of_others(self):
        chance = random.Random(167)
        for _ in range(150):
            work = drawn(chance)
            others = {name: chance.choice([least_handler, lambda told: stirred(chance, told, COUNTS)])(handler) for name, handler in work.handlers().items()}
            again = Work(COUNTS, others, work.functions())
            self.assertEqual(leaves(again), leaves(work))
            for shows in SHOWS:
                self.assertEqual(least_asks(again, shows), least_asks(work, shows))
            plain = Plain(work)
            for history, shows in histories(plain, plain.shown, 3):
                self.assertEqual(shown_by(again, history), shows)
            self.assertEqual([entry[0] for entry in entries(again) if entry[1] == ()], [entry[0] for entry in entries(work) if entry[1] == ()])


def shifted(row):
    if row[0] == "ask":
        return ("ask", row[1], tuple(index + 1 for index in row[2]))
    return ("go", row[1] + 1) if row[0] == "go" else row


if __name__ == "__main__":
    import unittest
    unittest.main()
