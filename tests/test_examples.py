"""The examples of sections 4 to 9, as they stand in the document."""

import doctest
import unittest

BODIES = """
>>> from askfurther.bodies import Body, shown
>>> toss = Body({"coin": 2, "fail": 0}, [("ask", "coin", (1, 2)), ("ask", "coin", (0, 3)), ("end", "good"), ("ask", "fail", ())])
>>> shown(toss, []), shown(toss, [("coin", 1)]), shown(toss, [("coin", 0), ("coin", 1)])
(('ask', 'coin'), ('end', 'good'), ('ask', 'fail'))
>>> toss.asked(), toss.words(), toss.hangs(), "fail" in toss
(['coin', 'fail'], ['good'], False, True)
>>> shown(toss.then({"good": toss}), [("coin", 1), ("coin", 1)])
('end', 'good')
"""
WRITTEN = """
>>> from askfurther.bodies import shown
>>> from askfurther.written import written
>>> heads = written({"coin": 2}, {"x": 2, "n": 3}, [("loop", [("ask", "x", "coin"), ("when", "x", 0, [("end", "tail")], []), ("turn", "n"), ("when", "n", 0, [("leave",)], [])])])
>>> shown(heads, [("coin", 1)] * 3), shown(heads, [("coin", 1), ("coin", 0)])
(('end', 'done'), ('end', 'tail'))
"""
HANDLERS = """
>>> from askfurther.handlers import Handler
>>> flip = Handler({"coin": 2}, {"tell": 1}, "low", {("low", "coin"): [("answer", 1, "high")], ("high", "coin"): [("ask", "tell", (1,)), ("answer", 0, "low")]}, {("high", "good"): [("finish", "odd")]})
>>> flip.states(), flip["high", "coin"], "tell" in flip, flip.further()
(['high', 'low'], (('ask', 'tell', (1,)), ('answer', 0, 'low')), False, {'tell': 1})
"""
FUSING = """
>>> from askfurther.bodies import Body, shown
>>> from askfurther.fusing import fused, handled
>>> from askfurther.handlers import Handler, passing
>>> toss = Body({"coin": 2, "fail": 0}, [("ask", "coin", (1, 2)), ("ask", "coin", (0, 3)), ("end", "good"), ("ask", "fail", ())])
>>> flip = Handler({"coin": 2}, {"tell": 1}, "low", {("low", "coin"): [("answer", 1, "high")], ("high", "coin"): [("ask", "tell", (1,)), ("answer", 0, "low")]}, {("high", "good"): [("finish", "odd")]})
>>> shown(handled(flip, toss), []), handled(flip, toss).operations()
(('end', 'odd'), {'fail': 0, 'tell': 1})
>>> zero = Handler({"tell": 1}, {}, "a", {("a", "tell"): [("finish", "told")]}, {})
>>> both = fused(flip, zero)
>>> "tell" in both, both.further(), shown(handled(both, toss), [])
(True, {}, ('end', 'odd'))
"""
LIKENESS = """
>>> from askfurther.bodies import Body
>>> from askfurther.likeness import least, pairs, parted, within
>>> toss = Body({"coin": 2, "fail": 0}, [("ask", "coin", (1, 2)), ("ask", "coin", (0, 3)), ("end", "good"), ("ask", "fail", ())])
>>> twice = Body({"coin": 2, "fail": 0}, [("ask", "coin", (1, 2)), ("ask", "coin", (4, 3)), ("end", "good"), ("ask", "fail", ()), ("ask", "coin", (5, 2)), ("go", 1)])
>>> parted(toss, twice), least(twice) == least(toss), pairs(toss, twice)
(None, True, [(0, 0), (0, 4), (1, 1), (2, 2), (3, 3)])
>>> sure = Body({"coin": 2}, [("ask", "coin", (0, 1)), ("end", "good")])
>>> parted(toss, sure), least(sure).rows()
(((('coin', 0), ('coin', 1)), ('ask', 'fail'), ('end', 'good')), [('ask', 'coin', (0, 1)), ('end', 'good')])
>>> dead = Body({"coin": 2}, [("ask", "coin", (1, 2)), ("go", 1), ("end", "good")])
>>> within(dead, sure), within(sure, dead)
(None, ((('coin', 0),), ('ask', 'coin'), ('hang',)))
"""
REACH = """
>>> from askfurther.handlers import Handler
>>> from askfurther.reach import answers, unmet, way_to
>>> flip = Handler({"coin": 2}, {"tell": 1}, "low", {("low", "coin"): [("answer", 1, "high")], ("high", "coin"): [("ask", "tell", (1,)), ("answer", 0, "low")], ("lost", "coin"): [("go", 0)]}, {})
>>> way_to(flip, "high"), unmet(flip), answers(flip, "coin")
(('coin',), ['lost'], [0, 1])
"""


class Examples(unittest.TestCase):
    def holds(self, text, many):
        example = doctest.DocTestParser().get_doctest(text, {}, self.id(), None, None)
        told = doctest.DocTestRunner(verbose=False).run(example)
        self.assertEqual((told.attempted, told.failed), (many, 0))

    def test_section_4(self):
        self.holds(BODIES, 5)

    def test_section_5(self):
        self.holds(WRITTEN, 4)

    def test_section_6(self):
        self.holds(HANDLERS, 3)

    def test_section_7(self):
        self.holds(FUSING, 9)

    def test_section_8(self):
        self.holds(LIKENESS, 9)

    def test_section_9(self):
        self.holds(REACH, 4)


if __name__ == "__main__":
    unittest.main()
