"""Objects that are larger than a bound, passed again to every function that takes them."""

import time

from askfurther.bodies import Body, shown
from askfurther.errors import TooMany
from askfurther.fusing import fused, handled
from askfurther.handlers import Handler, passing
from askfurther.likeness import least, pairs, pairs_fault, parted, parting_handler, within
from askfurther.outcomes import counted, first_to, index_of, is_finite, numbered, totals
from askfurther.reach import answers, met, unmet, way_to
from askfurther.rights import rights, rights_fault, rights_paper
from askfurther.sameness import (least_handler, parted_handlers, parting_body, state_pairs, state_pairs_fault,
                                 within_handlers)
from askfurther.standing import Run, Stand, alike_from, played, tried, tried_within
from askfurther.tables import clauses_met, entries, exits, leaves, least_asks, shown_by, unrolled, way_out
from askfurther.texts import body_text, handler_text
from askfurther.works import Work
from tests.checks import Checks

STATES = ["s" + letter for letter in "abcdefgh"]


def chain(many, word):
    """A body that asks so often, and ends with the word; at each ask the answer 1 begins again."""
    return Body({"a": 2, "b": 2}, [("ask", "ab"[at % 2], [at + 1, 0]) for at in range(many)] + [("end", word)])


def counter(name, carry, word):
    """A counter of 8 states that asks further out at its end, and ends with the word there."""
    clauses = {(state, name): [("answer", 0, STATES[at + 1])] if at < 7 else [("ask", carry, (1, 1)), ("answer", 0, "sa")]
               for at, state in enumerate(STATES)}
    return Handler({name: 2}, {carry: 2}, "sa", clauses, {("sh", "x"): [("finish", word)]})


class Larger(Checks):
    def setUp(self):
        self.begun = time.monotonic()
        self.body = chain(299, "x").then({"x": chain(300, "y").then({"y": chain(301, "x")})})
        self.other = chain(299, "x").then({"x": chain(300, "y").then({"y": chain(301, "y")})})
        self.handler = fused(counter("a", "c", "y"), counter("c", "d", "z"))
        self.unlike = fused(counter("a", "c", "y"), counter("c", "d", "x"))

    def tearDown(self):
        self.assertLess(time.monotonic() - self.begun, 30)

    def test_they_are_larger(self):
        self.assertEqual((len(self.body), len(self.handler.states())), (901, 64))

    def test_bodies(self):
        way = [("ab"[at % 2], 0) for at in range(299)] + [("ab"[at % 2], 0) for at in range(300)] + [("ab"[at % 2], 0) for at in range(301)]
        body, other = self.body, self.other
        self.assertEqual((shown(body, way), shown(other, way)), (("end", "x"), ("end", "y")))
        self.assertEqual(parted(body, other), (tuple(way), ("end", "x"), ("end", "y")))
        self.assertEqual(within(body, other), parted(body, other))
        self.assertEqual(pairs(body, body), [(at, at) for at in range(901)])
        self.assertIsNone(pairs_fault(body, least(body), pairs(body, least(body))))
        self.assertEqual(len(parting_handler(body, other).states()), 901)
        self.assertEqual((body.asked(), body.words(), body.hangs(), "a" in body), (["a", "b"], ["x"], False, True))
        self.assertEqual(body[900], ("end", "x"))
        longer = body.then({"x": other})
        self.assertEqual((len(longer), shown(longer, way * 2)), (1801, ("end", "y")))
        stand = Stand(body)
        for _, answer in way[:-1]:
            stand = stand(answer)
        self.assertEqual((stand(0).shows, stand(1).shows, alike_from(stand(0), Stand(body))), (("end", "x"), ("ask", "a"), False))
        run = Run(body)
        self.assertEqual(played(body, [0] * 900), (tuple(way), ("end", "x")))
        self.assertEqual(tried(run, [2] * 900)[1], ("end", "x"))
        self.assertEqual(tried_within(run, [[0] * 899, [0]]), [("end", "x"), ("ask", "a"), ("ask", "a")])
        self.assertEqual(counted(body, 900)[("end", "x")], 1)
        self.assertEqual(numbered(body, 900, ("end", "x"), 0), tuple(way))
        self.assertEqual((index_of(body, way), first_to(body, ("end", "x")), is_finite(body)), (0, tuple(way), False))
        self.assertEqual(totals(Body({"a": 1}, [("end", "x")]).then({"x": Body({}, [("end", "y")])})), {("end", "y"): 1})
        self.assertEqual(len(body_text(body).splitlines()), 903)

    def test_handlers(self):
        handler, unlike = self.handler, self.unlike
        told = parted_handlers(handler, unlike)
        # Both end alike but behind 56 asks, where the outer counter ends too: its clause of ends hears "x" or "y".
        self.assertEqual(within_handlers(handler, unlike), told)
        self.assertIsNone(parted_handlers(handler, fused(passing(), fused(handler, passing()))))
        self.assertEqual(state_pairs(handler, handler), sorted((state, state) for state in handler.states()))
        small = least_handler(handler)
        self.assertIsNone(state_pairs_fault(handler, small, state_pairs(handler, small)))
        self.assertEqual(len(small.states()), 64)
        body = parting_body(handler, unlike)
        self.assertIsNotNone(parted(handled(handler, body), handled(unlike, body)))
        self.assertEqual((unmet(handler), answers(handler, "a"), answers(handler, "c")), ([], [0], [0]))
        self.assertEqual(max(len(way_to(handler, state)) for state in handler.states()), 14)
        self.assertEqual(len(met(handler, chain(8, "x"))[1]), 15)
        self.assertEqual(len(met(handler, Body({"a": 2}, [("ask", "a", (0, 0))]))[0]), 64)
        self.assertEqual(len(handler_text(handler).splitlines()), 3 + sum(1 + len(rows) for rows in [*handler.clauses().values(), *handler.ends().values()]))
        again = fused(handler, unlike)
        self.assertIsNone(parted_handlers(least_handler(again), again))

    def test_both(self):
        asks = Body({"a": 2}, [("ask", "a", [at + 1, at]) for at in range(399)] + [("end", "x")])
        longer = asks.then({"x": asks.then({"x": asks})})
        whole = handled(self.handler, longer)
        self.assertEqual(shown(whole, [("d", 0)] * (3 * 399 // 64)), ("end", "x"))
        self.assertEqual(parted(whole, handled(self.unlike, longer)), None)
        self.assertEqual(parted(whole, handled(counter("c", "d", "z"), handled(counter("a", "c", "y"), longer))), None)
        forever = handled(self.handler, asks.then({"x": Body({"a": 2}, [("ask", "a", (0, 0))])}))
        self.assertEqual(forever.words(), [])
        ring = Body({"a": 2, "b": 2}, [("ask", "a" if at else "b", [(at + 1) % 64] * 2) for at in range(64)])
        self.refused(TooMany, lambda: handled(self.handler, ring), 4000)

    def test_works(self):
        rows = [("ask", "a", (1, 1)), ("ask", "coin", (0, 2)), ("end", "x")]
        work = Work({"a": 2, "coin": 2}, {"count": self.handler}, [("main", [("handle", "count", "f", {})]), ("f", rows)])
        self.assertEqual(leaves(work), (["coin", "d"], ["x", "y", "z"], False))
        self.assertEqual((len(entries(work)), len(clauses_met(work)[0])), (2, 64))
        self.assertEqual(shown_by(work, [("coin", 0)] * 63), ("ask", "d"))
        self.assertEqual((least_asks(work, ("ask", "d")), len(way_out(work, ("ask", "d")))), (63, 63))
        self.assertEqual(len(exits(work, "f", [("count", self.handler.start)])), 64)
        body = Body({"a": 2, "coin": 2}, rows)
        self.assertIsNone(parted(unrolled(work), handled(self.handler, body)))
        self.assertEqual(rights(work), {"main": ["coin", "d"], "f": ["a", "coin"]})
        self.assertIsNone(rights_fault(work, rights_paper(work)))
        self.assertEqual(work, Work(work.operations(), work.handlers(), work.functions()))
        self.assertNotEqual(work, Work(work.operations(), {"count": self.unlike}, work.functions()))


if __name__ == "__main__":
    import unittest
    unittest.main()
