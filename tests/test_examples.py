"""The examples of sections 4 to 15, as they stand in the document."""

import doctest
import unittest

BODIES = """
>>> from askfurther.bodies import Body, shown
>>> toss = Body({"coin": 2, "fail": 0}, [("ask", "coin", (1, 2)), ("ask", "coin", (0, 3)), ("end", "good"), ("ask", "fail", ())])
>>> shown(toss, []), shown(toss, [("coin", 1)]), shown(toss, [("coin", 0), ("coin", 1)])
(('ask', 'coin'), ('end', 'good'), ('ask', 'fail'))
>>> toss.asked(), toss.words(), toss.hangs(), "fail" in toss
(['coin', 'fail'], ['good'], False, True)
>>> shown(toss.then({"good": toss}), [("coin", 1), ("coin", 1)])
('end', 'good')
"""
WRITTEN = """
>>> from askfurther.bodies import shown
>>> from askfurther.written import written
>>> heads = written({"coin": 2}, {"x": 2, "n": 3}, [("loop", [("ask", "x", "coin"), ("when", "x", 0, [("end", "tail")], []), ("turn", "n"), ("when", "n", 0, [("leave",)], [])])])
>>> shown(heads, [("coin", 1)] * 3), shown(heads, [("coin", 1), ("coin", 0)])
(('end', 'done'), ('end', 'tail'))
"""
HANDLERS = """
>>> from askfurther.handlers import Handler
>>> flip = Handler({"coin": 2}, {"tell": 1}, "low", {("low", "coin"): [("answer", 1, "high")], ("high", "coin"): [("ask", "tell", (1,)), ("answer", 0, "low")]}, {("high", "good"): [("finish", "odd")]})
>>> flip.states(), flip["high", "coin"], "tell" in flip, flip.further()
(['high', 'low'], (('ask', 'tell', (1,)), ('answer', 0, 'low')), False, {'tell': 1})
"""
FUSING = """
>>> from askfurther.bodies import Body, shown
>>> from askfurther.fusing import fused, handled
>>> from askfurther.handlers import Handler, passing
>>> toss = Body({"coin": 2, "fail": 0}, [("ask", "coin", (1, 2)), ("ask", "coin", (0, 3)), ("end", "good"), ("ask", "fail", ())])
>>> flip = Handler({"coin": 2}, {"tell": 1}, "low", {("low", "coin"): [("answer", 1, "high")], ("high", "coin"): [("ask", "tell", (1,)), ("answer", 0, "low")]}, {("high", "good"): [("finish", "odd")]})
>>> shown(handled(flip, toss), []), handled(flip, toss).operations()
(('end', 'odd'), {'fail': 0, 'tell': 1})
>>> zero = Handler({"tell": 1}, {}, "a", {("a", "tell"): [("finish", "told")]}, {})
>>> both = fused(flip, zero)
>>> "tell" in both, both.further(), shown(handled(both, toss), [])
(True, {}, ('end', 'odd'))
"""
LIKENESS = """
>>> from askfurther.bodies import Body
>>> from askfurther.likeness import least, pairs, parted, within
>>> toss = Body({"coin": 2, "fail": 0}, [("ask", "coin", (1, 2)), ("ask", "coin", (0, 3)), ("end", "good"), ("ask", "fail", ())])
>>> twice = Body({"coin": 2, "fail": 0}, [("ask", "coin", (1, 2)), ("ask", "coin", (4, 3)), ("end", "good"), ("ask", "fail", ()), ("ask", "coin", (5, 2)), ("go", 1)])
>>> parted(toss, twice), least(twice) == least(toss), pairs(toss, twice)
(None, True, [(0, 0), (0, 4), (1, 1), (2, 2), (3, 3)])
>>> sure = Body({"coin": 2}, [("ask", "coin", (0, 1)), ("end", "good")])
>>> parted(toss, sure), least(sure).rows()
(((('coin', 0), ('coin', 1)), ('ask', 'fail'), ('end', 'good')), [('ask', 'coin', (0, 1)), ('end', 'good')])
>>> dead = Body({"coin": 2}, [("ask", "coin", (1, 2)), ("go", 1), ("end", "good")])
>>> within(dead, sure), within(sure, dead)
(None, ((('coin', 0),), ('ask', 'coin'), ('hang',)))
"""
REACH = """
>>> from askfurther.handlers import Handler
>>> from askfurther.reach import answers, unmet, way_to
>>> flip = Handler({"coin": 2}, {"tell": 1}, "low", {("low", "coin"): [("answer", 1, "high")], ("high", "coin"): [("ask", "tell", (1,)), ("answer", 0, "low")], ("lost", "coin"): [("go", 0)]}, {})
>>> way_to(flip, "high"), unmet(flip), answers(flip, "coin")
(('coin',), ['lost'], [0, 1])
"""
SAMENESS = """
>>> from askfurther.handlers import Handler, passing
>>> from askfurther.sameness import least_handler, parted_handlers, state_pairs, within_handlers
>>> flip = Handler({"coin": 2}, {"tell": 1}, "low", {("low", "coin"): [("answer", 1, "high")], ("high", "coin"): [("ask", "tell", (1,)), ("answer", 0, "low")]}, {("high", "good"): [("finish", "odd")]})
>>> long = Handler({"coin": 2, "tell": 1}, {"tell": 1}, "x", {("x", "coin"): [("go", 2), ("go", 1), ("answer", 1, "y")], ("y", "coin"): [("ask", "tell", (1,)), ("answer", 0, "z")], ("z", "coin"): [("answer", 1, "y")], ("x", "tell"): [("ask", "tell", (1,)), ("answer", 0, "z")], ("y", "tell"): [("ask", "tell", (1,)), ("answer", 0, "y")], ("z", "tell"): [("ask", "tell", (1,)), ("answer", 0, "x")]}, {("y", "good"): [("finish", "odd")], ("z", "good"): [("finish", "good")]})
>>> parted_handlers(flip, long), state_pairs(flip, long)
(None, [('high', 'y'), ('low', 'x'), ('low', 'z')])
>>> least_handler(long).clauses()
{('a', 'coin'): (('answer', 1, 'b'),), ('b', 'coin'): (('ask', 'tell', (1,)), ('answer', 0, 'a'))}
>>> parted_handlers(flip, passing())
((), ('ask', 'coin'), (), ('answer', 1), ('ask', 'coin'))
>>> dull = Handler({"coin": 2}, {}, "a", {("a", "coin"): [("answer", 1, "b")], ("b", "coin"): [("go", 0)]}, {("b", "good"): [("finish", "odd")]})
>>> parted_handlers(flip, dull), within_handlers(dull, flip)
(((('coin', 1),), ('ask', 'coin'), (), ('ask', 'tell'), ('hang',)), None)
"""
STANDING = """
>>> from askfurther.bodies import Body
>>> from askfurther.standing import Run, Stand, played, tried, tried_within
>>> toss = Body({"coin": 2, "fail": 0}, [("ask", "coin", (1, 2)), ("ask", "coin", (0, 3)), ("end", "good"), ("ask", "fail", ())])
>>> first = Stand(toss)(0)
>>> first.shows, first(0).past, first(1).shows, len(first)
(('ask', 'coin'), (('coin', 0), ('coin', 0)), ('ask', 'fail'), 1)
>>> played(toss, [2, 4, 7])
((('coin', 0), ('coin', 0), ('coin', 1)), ('end', 'good'))
>>> run = Run(toss)
>>> run["coin"] = 0
>>> run(5), run.shows, tried(run, [0]), len(run.past)
(5, ('ask', 'coin'), ((('coin', 0), ('coin', 0), ('coin', 0), ('coin', 0), ('coin', 0), ('coin', 0)), ('ask', 'coin')), 5)
>>> tried_within(Run(toss), [[0], [1]])
[('ask', 'fail'), ('ask', 'coin'), ('ask', 'coin')]
"""
OUTCOMES = """
>>> from askfurther.bodies import Body
>>> from askfurther.outcomes import counted, first_to, index_of, is_finite, numbered, totals
>>> toss = Body({"coin": 2, "fail": 0}, [("ask", "coin", (1, 2)), ("ask", "coin", (0, 3)), ("end", "good"), ("ask", "fail", ())])
>>> counted(toss, 2), counted(toss, 4), is_finite(toss)
({('ask', 'coin'): 1, ('ask', 'fail'): 1}, {('ask', 'coin'): 1, ('ask', 'fail'): 1}, False)
>>> numbered(toss, 3, ("end", "good"), 0), index_of(toss, [("coin", 0), ("coin", 1)]), first_to(toss, ("ask", "fail"))
((('coin', 0), ('coin', 0), ('coin', 1)), 0, (('coin', 0), ('coin', 1)))
"""
TABLES = """
>>> from askfurther.handlers import Handler
>>> from askfurther.works import Work
>>> from askfurther.tables import entries, exits, leaves, least_asks, shown_by, way_out
>>> count = Handler({"tick": 2}, {"ring": 1}, "a", {("a", "tick"): [("answer", 0, "b")], ("b", "tick"): [("ask", "ring", (1,)), ("answer", 1, "a")]}, {("b", "done"): [("finish", "odd")]})
>>> main = ("main", [("handle", "count", "walk", {"done": 1}), ("ask", "coin", (0, 2)), ("end", "even")])
>>> walk = ("walk", [("ask", "coin", (1, 2)), ("end", "done"), ("ask", "tick", (3, 1)), ("call", "walk", {"done": 1})])
>>> work = Work({"coin": 2, "tick": 2, "ring": 1}, {"count": count}, [main, walk])
>>> entries(work)
[('main', ()), ('walk', (('count', 'a'),)), ('walk', (('count', 'b'),))]
>>> exits(work, "walk", [("count", "b")])
[('end', 'done', (('count', 'a'),)), ('end', 'done', (('count', 'b'),))]
>>> leaves(work)
(['coin', 'ring'], ['even', 'odd'], False)
>>> shown_by(work, [("coin", 1), ("coin", 1)]), shown_by(work, [("coin", 1), ("coin", 0)])
(('ask', 'ring'), ('end', 'odd'))
>>> least_asks(work, ("end", "even")), way_out(work, ("ask", "ring"))
(2, (('coin', 1), ('coin', 1)))
"""
RIGHTS = """
>>> from askfurther.rights import rights, rights_fault, rights_paper
>>> rights(work)
{'main': ['coin', 'ring'], 'walk': ['coin', 'tick']}
>>> rights_paper(work)
[('main', 'coin', 1), ('walk', 'coin', 0), ('walk', 'tick', 2), ('main', 'ring', 0)]
>>> rights_fault(work, rights_paper(work)[1:])
('lacks', 'main', 'coin')
"""
TEXTS = """
>>> from askfurther.bodies import Body
>>> from askfurther.texts import body_text, read_body
>>> toss = Body({"coin": 2, "fail": 0}, [("ask", "coin", (1, 2)), ("ask", "coin", (0, 3)), ("end", "good"), ("ask", "fail", ())])
>>> body_text(toss).splitlines()[:4], read_body(body_text(toss)) == toss
(['operations coin 2, fail 0', 'start 0', '0 ask coin 1 2', '1 ask coin 0 3'], True)
"""


class Examples(unittest.TestCase):
    def holds(self, text, many):
        example = doctest.DocTestParser().get_doctest(text, {}, self.id(), None, None)
        told = doctest.DocTestRunner(verbose=False).run(example)
        self.assertEqual((told.attempted, told.failed), (many, 0))

    def test_section_4(self):
        self.holds(BODIES, 5)

    def test_section_5(self):
        self.holds(WRITTEN, 4)

    def test_section_6(self):
        self.holds(HANDLERS, 3)

    def test_section_7(self):
        self.holds(FUSING, 9)

    def test_section_8(self):
        self.holds(LIKENESS, 9)

    def test_section_9(self):
        self.holds(REACH, 4)

    def test_section_10(self):
        self.holds(SAMENESS, 9)

    def test_section_11(self):
        self.holds(STANDING, 10)

    def test_section_12(self):
        self.holds(OUTCOMES, 5)

    def test_section_13(self):
        self.holds(TABLES, 12)

    def test_section_14(self):
        # Its work is the one of section 13.
        self.holds(TABLES + RIGHTS, 16)

    def test_section_15(self):
        self.holds(TEXTS, 4)


if __name__ == "__main__":
    unittest.main()
