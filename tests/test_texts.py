"""Section 15: texts of bodies and handlers."""

import random
import re

from askfurther.bodies import Body
from askfurther.errors import BadBody, BadHandler, BadOperations, BadStart, NoText
from askfurther.fusing import fused
from askfurther.handlers import Handler, passing
from askfurther.texts import body_text, handler_text, read_body, read_handler
from tests.checks import Checks
from tests.models import random_rows
from tests.odd import DICTS, INTEGERS, NOTHINGS, ROWS
from tests.within import random_parts

TOSS = Body({"coin": 2, "fail": 0}, [("ask", "coin", (1, 2)), ("ask", "coin", (0, 3)), ("end", "good"), ("ask", "fail", ())])
FLIP = Handler({"coin": 2}, {"tell": 1}, "low",
               {("low", "coin"): [("answer", 1, "high")], ("high", "coin"): [("ask", "tell", (1,)), ("answer", 0, "low")]},
               {("high", "good"): [("finish", "odd")]})
TOSS_LINES = ["operations coin 2, fail 0", "start 0", "0 ask coin 1 2", "1 ask coin 0 3", "2 end good", "3 ask fail"]
FLIP_LINES = ["handled coin 2", "further tell 1", "start low", "clause high coin", "  0 ask tell 1", "  1 answer 0 low",
              "clause low coin", "  0 answer 1 high", "end high good", "  0 finish odd"]
# Rows that are told by their form wherever a row may stand, and what they tell.
ROW_FORMS = {"ask coin": ("ask", "coin", ()), "ask ask 0 1 2": ("ask", "ask", (0, 1, 2)), "end end": ("end", "end"), "go 12": ("go", 12),
             "answer 0 low": ("answer", 0, "low"), "finish odd": ("finish", "odd"), f"go {10 ** 30 - 1}": ("go", 10 ** 30 - 1)}
NO_ROWS = [
    "ask", "ask coin ", "ask coin 1 ", "ask coin  1", "ask coin 1,2", "ask coin -1", "ask coin 01", "ask coin +1", "ask coin x", "ask 1 2", "ask Coin 1",
    "ask coin 1\t2", "ask coin " + "1" * 31, "ask toolongname 1", "end", "end ", "end x y", "end 1", "end X", "end x ", " end x", "end\tx", "go", "go x",
    "go 1 2", "go 01", "go 00", "go -1", "go 1 ", "go " + "9" * 31, "answer", "answer 0", "answer 0 low 1", "answer low 0", "answer 00 low", "answer 0 Low",
    "finish", "finish x y", "finish 0", "leave x", "leave 0", "leave 0 low", "leave x 0 1", "", " ", "End x", "END x", "1 end x", "end x,", "clause a b", "start 0", "end tabs\t",
]


def text(lines):
    return "".join(line + "\n" for line in lines)


class Bodies(Checks):
    def no_text(self, lines, number):
        """The text is none, its line with this number being the first wrong one, with and without the last line feed."""
        self.refused(NoText, lambda: read_body(text(lines)), number)
        if lines and lines[-1] != "":
            self.refused(NoText, lambda: read_body(text(lines)[:-1]), number)

    def test_written_by_hand(self):
        self.assertEqual(body_text(TOSS), text(TOSS_LINES))
        self.assertEqual(read_body(text(TOSS_LINES)), TOSS)
        other = Body({}, [("go", 1), ("go", 0), ("end", "x")], start=2)
        self.assertEqual(body_text(body=other), "operations\nstart 2\n0 go 1\n1 go 0\n2 end x\n")
        self.assertEqual(read_body(text="operations\nstart 2\n0 go 1\n1 go 0\n2 end x"), other)
        ring = Body({"s": 6}, [("ask", "s", [(at + 1) % 12] * 6) for at in range(12)], start=11)
        self.assertEqual(body_text(ring).splitlines()[12:], ["10 ask s 11 11 11 11 11 11", "11 ask s 0 0 0 0 0 0"])
        self.assertEqual(read_body(body_text(ring)), ring)

    def test_drawn(self):
        chance = random.Random(181)
        counts = {"a": 2, "b": 1, "c": 0, "d": 6}
        for _ in range(300):
            told = {name: counts[name] for name in chance.sample(sorted(counts), chance.randrange(5))}
            many = chance.randrange(1, 30)
            body = Body(told, random_rows(chance, told, many, ["x", "end", "ask"]), start=chance.randrange(many))
            self.assertEqual(read_body(body_text(body)), body)
            self.assertEqual(read_body(body_text(body)[:-1]), body)
            lines = body_text(body).split("\n")
            parts = lines[0][len("operations "):].split(", ")
            chance.shuffle(parts)
            if told:
                self.assertEqual(read_body("\n".join(["operations " + ", ".join(parts)] + lines[1:])), body)

    def test_names_that_are_words_of_texts(self):
        words = ["end", "ask", "go", "clause", "state", "start", "finish", "answer"]
        body = Body({word: 1 for word in words}, [("ask", word, (at + 1,)) for at, word in enumerate(words)] + [("end", "end")])
        self.assertEqual(body_text(body).split("\n")[0], "operations answer 1, ask 1, clause 1, end 1, finish 1, go 1, start 1, state 1")
        self.assertEqual(body_text(body).split("\n")[2], "0 ask end 1")
        self.assertEqual(read_body(body_text(body)), body)

    def test_no_text(self):
        for thing in NOTHINGS + INTEGERS + ROWS + DICTS + [TOSS, [text(TOSS_LINES)], text(TOSS_LINES).encode()]:
            if not isinstance(thing, str):
                self.refused(NoText, lambda: read_body(thing), -1)

    def test_lines_that_are_lacking(self):
        self.refused(NoText, lambda: read_body(""), 1)
        self.refused(NoText, lambda: read_body("\n"), 1)
        self.no_text(TOSS_LINES[:1], 2)
        self.no_text(TOSS_LINES[1:], 1)
        self.no_text(TOSS_LINES[:1] + TOSS_LINES[2:], 2)
        for at in range(2, 5):
            self.no_text(TOSS_LINES[:at] + TOSS_LINES[at + 1:], at + 1)
        self.refused(BadBody, lambda: read_body(text(TOSS_LINES[:2])), -1)
        self.refused(BadBody, lambda: read_body(text(TOSS_LINES[:5])), 1)

    def test_lines_more(self):
        for at in range(7):
            for line in ("", " ", "0", "end", "operations", "start 0", TOSS_LINES[max(at - 1, 0)]):
                if (at, line) not in ((0, TOSS_LINES[0]), (0, "operations"), (1, "start 0")):
                    self.no_text(TOSS_LINES[:at] + [line] + TOSS_LINES[at:], at + 1)
        self.refused(NoText, lambda: read_body(text(TOSS_LINES) + "\n"), 7)
        self.refused(NoText, lambda: read_body(text(TOSS_LINES) + "\n\n"), 7)
        self.refused(NoText, lambda: read_body("\n" + text(TOSS_LINES)), 1)
        self.no_text([TOSS_LINES[0]] + TOSS_LINES, 2)

    def test_each_line_wrong(self):
        chance = random.Random(182)
        for at, line in enumerate(TOSS_LINES):
            for wrong in (line + " ", " " + line, line.replace(" ", "  ", 1), line.replace(" ", "\t", 1), line.upper(), line + " X", line[1:], "x" + line,
                          line + ",", line + "\t", line.replace(" ", "", 1), line.replace("0", "00").replace("1", "01").replace("2", "02")):
                if wrong != line and not (at > 1 and re.fullmatch(str(at - 2) + r" (ask [a-z]{1,8}( \d+)*|end [a-z]{1,8})", wrong)
                                          and not re.search(r"\b0\d", wrong)):
                    self.no_text(TOSS_LINES[:at] + [wrong] + TOSS_LINES[at + 1:], at + 1)
                    # A line behind that is wrong too, even so that Body would refuse it, is not told.
                    later = [chance.choice(["", "x", line, "9 end x"]) for line in TOSS_LINES[at + 1:]]
                    self.no_text(TOSS_LINES[:at] + [wrong] + later, at + 1)

    def test_operations(self):
        for line in ("operation", "Operations", "operations ", "operations coin", "operations coin 2,", "operations coin 2, ", "operations coin 2,fail 0",
                     "operations coin 2 , fail 0", "operations coin 2,  fail 0", "operations , coin 2", "operations coin 2 fail 0", "operations 2 coin",
                     "operations coin 02", "operations coin -2", "operations coin 2.0", "operations Coin 2", "operations coincoins 2", "operations  2",
                     "operations coin 2, fail 0, coin 2", "operations coin 2, coin 3", "operations coin two", "operations coin  2", "operations coin\t2",
                     "operations coin " + "1" * 31, "operations coin 2, fail 0 ", "handled coin 2, fail 0", "operations: coin 2", "operations coin 2; fail 0"):
            self.no_text([line] + TOSS_LINES[1:], 1)
            self.no_text([line, "x"], 1)
        self.refused(BadOperations, lambda: read_body(text(["operations coin 7"] + TOSS_LINES[1:])))
        self.refused(BadOperations, lambda: read_body(text([f"operations coin {'1' * 30}", "start 9", "0 go 9"])))
        nine = ", ".join(f"o{letter} 0" for letter in "abcdefghi")
        self.refused(BadOperations, lambda: read_body(f"operations {nine}\nstart 0\n0 end x\n"))
        self.refused(NoText, lambda: read_body(f"operations {nine}, oa 0\nstart 0\n0 end x\n"), 1)

    def test_start(self):
        for line in ("start", "start ", "start low", "start 00", "start -1", "start 0 0", "Start 0", "start  0", "start 0 ", "begin 0", "start " + "1" * 31, "0"):
            self.no_text([TOSS_LINES[0], line] + TOSS_LINES[2:], 2)
        for number in (4, 10 ** 29):
            self.refused(BadStart, lambda: read_body(text([TOSS_LINES[0], f"start {number}"] + TOSS_LINES[2:])), number)
        self.refused(BadBody, lambda: read_body("operations\nstart 7\n0 go 9\n"), 0)
        self.assertEqual(read_body(text([TOSS_LINES[0], "start 3"] + TOSS_LINES[2:])).start, 3)

    def test_rows(self):
        for row in NO_ROWS:
            self.no_text(TOSS_LINES[:2] + ["0 " + row], 3)
            self.no_text(TOSS_LINES + ["4 " + row, "x"], 7)
            self.no_text(TOSS_LINES[:2] + [row], 3)
        for index in ("00", "1", "-0", "", " 0", "x", "+0", "0.", "0:"):
            self.no_text(TOSS_LINES[:2] + [index + " end x"], 3)
        for index in ("3", "5", "04", "40", "four"):
            self.no_text(TOSS_LINES + [index + " end x"], 7)
        self.no_text(TOSS_LINES + ["  4 end x"], 7)
        for form, row in ROW_FORMS.items():
            lines = TOSS_LINES + ["4 " + form]
            rows = TOSS.rows() + [row]
            try:
                body = Body(TOSS.operations(), rows)
            except BadBody as error:
                self.refused(BadBody, lambda: read_body(text(lines)), error.index)
            else:
                self.assertEqual(read_body(text(lines)), body)

    def test_rows_of_many_lines(self):
        rows = [("go", at) for at in range(401)]
        lines = ["operations", "start 0"] + [f"{at} go {at}" for at in range(401)]
        self.refused(BadBody, lambda: read_body(text(lines)), -1)
        self.assertEqual(read_body(text(lines[:-1])).rows(), rows[:400])


class Handlers(Checks):
    def no_text(self, lines, number):
        self.refused(NoText, lambda: read_handler(text(lines)), number)
        if lines and lines[-1] != "":
            self.refused(NoText, lambda: read_handler(text(lines)[:-1]), number)

    def test_written_by_hand(self):
        self.assertEqual(handler_text(FLIP), text(FLIP_LINES))
        self.assertEqual(read_handler(text(FLIP_LINES)), FLIP)
        self.assertEqual(read_handler(text=text(FLIP_LINES)[:-1]), FLIP)
        self.assertEqual(handler_text(handler=passing()), "handled\nfurther\nstart a\n")
        self.assertEqual(read_handler("handled\nfurther\nstart a"), passing())

    def test_drawn(self):
        chance = random.Random(183)
        counts = {"a": 2, "b": 1, "c": 0}
        for _ in range(300):
            handles, further = ({name: counts[name] for name in chance.sample(sorted(counts), chance.randrange(4))} for _ in range(2))
            handler = Handler(*random_parts(chance, handles, further, ["x", "end"], ["p", "clause", "end"][:chance.randrange(1, 4)], 4))
            told = handler_text(handler)
            self.assertEqual(read_handler(told), handler)
            # The clauses in another order among their like, and the operations, too.
            blocks = re.findall(r"(?:clause|end) .*\n(?:  .*\n)*", "".join(line + "\n" for line in told.split("\n")[3:]))
            chance.shuffle(blocks)
            blocks = sorted(blocks, key=lambda block: block.startswith("end"))
            lines = told.split("\n")[:3]
            for at in (0, 1):
                word, *rest = lines[at].split(" ", 1)
                if rest:
                    parts = rest[0].split(", ")
                    chance.shuffle(parts)
                    lines[at] = word + " " + ", ".join(parts)
            self.assertEqual(read_handler("\n".join(lines) + "\n" + "".join(blocks)), handler)

    def test_clauses_are_sorted(self):
        clauses = {(state, name): [("answer", 0, "s")] for state in ("s", "ab", "b") for name in ("c", "bb", "a")}
        ends = {(state, word): [("finish", "x")] for state in ("b", "a") for word in ("y", "aa")}
        handler = Handler({"c": 1, "a": 1, "bb": 1}, {}, "s", {**clauses, **{("a", name): [("go", 0)] for name in ("a", "bb", "c")}}, ends)
        heads = [line for line in handler_text(handler).split("\n")[3:] if line and not line.startswith(" ")]
        told = [("clause", *at) for at in sorted(handler.clauses())] + [("end", *at) for at in sorted(ends)]
        self.assertEqual(heads, [" ".join(head) for head in told])

    def test_names_that_are_words_of_texts(self):
        words = ["end", "ask", "go", "clause", "state"]
        clauses = {(state, name): [("ask", "finish", (1,)), ("answer", 0, state)] for state in words for name in words}
        handler = Handler({word: 1 for word in words}, {"finish": 1, "ask": 1}, "end", clauses, {("end", "end"): [("finish", "end")]})
        self.assertEqual(read_handler(handler_text(handler)), handler)
        self.assertEqual(handler_text(handler).split("\n")[-3:], ["end end end", "  0 finish end", ""])

    def test_no_text(self):
        for thing in NOTHINGS + INTEGERS + ROWS + DICTS + [FLIP, [text(FLIP_LINES)], text(FLIP_LINES).encode()]:
            if not isinstance(thing, str):
                self.refused(NoText, lambda: read_handler(thing), -1)

    def test_lines_that_are_lacking(self):
        self.refused(NoText, lambda: read_handler(""), 1)
        for many in (1, 2):
            self.no_text(FLIP_LINES[:many], many + 1)
        for at in (0, 1, 2):
            self.no_text(FLIP_LINES[:at] + FLIP_LINES[at + 1:], at + 1)
        self.no_text(FLIP_LINES[:3] + FLIP_LINES[4:], 4)
        self.no_text(FLIP_LINES[:4] + FLIP_LINES[5:], 5)
        self.no_text(FLIP_LINES[:6] + FLIP_LINES[7:], 7)
        # Clauses without rows, or none, are read, and refused by Handler.
        for lines in (FLIP_LINES[:4], FLIP_LINES[:5] + FLIP_LINES[6:], FLIP_LINES[:6], FLIP_LINES[:7] + FLIP_LINES[8:], FLIP_LINES[:3]):
            self.refused(BadHandler, lambda: read_handler(text(lines)), "clauses")
        self.refused(BadHandler, lambda: read_handler(text(FLIP_LINES[:9])), "ends")
        self.assertEqual(read_handler(text(FLIP_LINES[:8])).ends(), {})

    def test_lines_more(self):
        for at in range(11):
            for line in ("", " ", "  ", "0 finish x", "handled", "clause high", "end high", "  x"):
                if (at, line) != (0, "handled"):
                    self.no_text(FLIP_LINES[:at] + [line] + FLIP_LINES[at:], at + 1)
        for at in (0, 1, 2, 3, 6, 8):
            self.no_text(FLIP_LINES[:at] + [FLIP_LINES[at]] + FLIP_LINES[at:], at + 2)
        self.refused(NoText, lambda: read_handler(text(FLIP_LINES) + "\n"), 11)

    def test_told_already_and_behind_ends(self):
        self.no_text(FLIP_LINES + ["clause low toss", "  0 go 0"], 11)
        self.no_text(FLIP_LINES + ["clause high coin"], 11)
        self.no_text(FLIP_LINES + ["end high good", "  0 go 0"], 11)
        self.no_text(FLIP_LINES[:8] + ["clause high coin", "  0 go 0"] + FLIP_LINES[8:], 9)
        self.no_text(FLIP_LINES[:3] + FLIP_LINES[8:] + FLIP_LINES[3:8], 6)
        # The same state and name for a clause and an end are two; another end is one more.
        lines = FLIP_LINES[:8] + ["end high coin", "  0 finish x"] + FLIP_LINES[8:]
        self.assertEqual(read_handler(text(lines)).ends(), {("high", "coin"): (("finish", "x"),), ("high", "good"): (("finish", "odd"),)})
        # No clause that was told ahead of the state's own ones is lacking for it, whatever the order.
        self.assertEqual(read_handler(text(FLIP_LINES[:3] + FLIP_LINES[6:8] + FLIP_LINES[3:6] + FLIP_LINES[8:])), FLIP)

    def test_heads(self):
        for line in ("handled coin", "handled ", "Handled coin 2", "handled coin 2, coin 2", "further coin 2", "operations coin 2", "handled coin 02"):
            self.no_text([line] + FLIP_LINES[1:], 1)
        for line in ("further tell", "further ", "further tell 1, tell 1", "handled tell 1", "further tell 1,", "further tell " + "1" * 31):
            self.no_text([FLIP_LINES[0], line] + FLIP_LINES[2:], 2)
        for line in ("start", "start 0", "start Low", "start low high", "start  low", "start low ", "start toolongname", "begin low", "start l0w"):
            self.no_text(FLIP_LINES[:2] + [line] + FLIP_LINES[3:], 3)
        for line in ("clause", "clause high", "clause high coin x", "clause High coin", "clause high 2", "clause  high coin", " clause high coin",
                     "clause high coin ", "ends high coin", "Clause high coin", "state high coin", "clause high toolongname", "clause high,coin", "0 go 0"):
            self.no_text(FLIP_LINES[:3] + [line] + FLIP_LINES[4:], 4)
            self.no_text(FLIP_LINES[:6] + [line, ""], 7)
            self.no_text(FLIP_LINES + [line.replace("lause", "nd")] if "lause" in line and "coin x" not in line else FLIP_LINES + ["end a"], 11)

    def test_rows(self):
        for row in NO_ROWS:
            self.no_text(FLIP_LINES[:4] + ["  0 " + row], 5)
            self.no_text(FLIP_LINES[:5] + ["  1 " + row, "", "x"], 6)
            self.no_text(FLIP_LINES + ["  1 " + row], 11)
        for ahead in ("", " ", "   ", "\t", "  \t", " \t"):
            self.no_text(FLIP_LINES[:4] + [ahead + "0 finish x"] + FLIP_LINES[5:], 5)
        for index in ("1", "00", "", "x", "-0"):
            self.no_text(FLIP_LINES[:4] + [f"  {index} finish x"] + FLIP_LINES[5:], 5)
            self.no_text(FLIP_LINES[:7] + [f"  {index} finish x"], 8)
        self.no_text(FLIP_LINES[:3] + ["  0 finish x"], 4)
        for form, row in ROW_FORMS.items():
            for at, part in ((7, "clauses"), (9, "ends")):
                lines = FLIP_LINES[:at] + [FLIP_LINES[at], "  1 " + form] + FLIP_LINES[at + 1:]
                clauses, ends = FLIP.clauses(), FLIP.ends()
                table, key = (clauses, ("low", "coin")) if part == "clauses" else (ends, ("high", "good"))
                table[key] += (row,)
                try:
                    handler = Handler({"coin": 2}, {"tell": 1}, "low", clauses, ends)
                except BadHandler as error:
                    self.assertEqual(error.part, part)
                    self.refused(BadHandler, lambda: read_handler(text(lines)), part)
                else:
                    self.assertEqual(read_handler(text(lines)), handler)

    def test_what_handler_refuses(self):
        cases = [("handled", ["handled coin 7"] + FLIP_LINES[1:]), ("further", [FLIP_LINES[0], "further tell 9"] + FLIP_LINES[2:]),
                 ("further", [FLIP_LINES[0], "further coin 3"] + FLIP_LINES[2:]), ("clauses", FLIP_LINES[:2] + ["start lost"] + FLIP_LINES[3:]),
                 ("clauses", FLIP_LINES[:8] + ["clause low toss", "  0 go 0"]), ("clauses", FLIP_LINES[:5] + ["  1 answer 2 low"] + FLIP_LINES[6:]),
                 ("ends", FLIP_LINES[:9] + ["  0 answer 0 low"]), ("clauses", FLIP_LINES[:4] + ["  0 end x"] + FLIP_LINES[5:]),
                 ("clauses", FLIP_LINES[:3] + FLIP_LINES[8:]), ("clauses", FLIP_LINES[:8] + ["end lost good", "  0 finish x"]),
                 ("handled", ["handled coin 7", "further tell 9", "start lost"]),
                 ("clauses", FLIP_LINES[:7] + [f"  {at} go 0" for at in range(21)])]
        for part, lines in cases:
            self.refused(BadHandler, lambda: read_handler(text(lines)), part)
            self.no_text(lines + ["x"], len(lines) + 1)

    def test_larger_than_a_bound(self):
        counters = []
        for name in "ab":
            states = ["s" + letter for letter in "abcdefgh"]
            clauses = {(state, name): [("answer", 0, states[(at + 1) % 8])] for at, state in enumerate(states)}
            counters.append(Handler({name: 1}, {}, "sa", clauses, {("sh", "x"): [("finish", "y")]}))
        both = fused(*counters)
        lines = handler_text(both).split("\n")
        heads = [line for line in lines if line.startswith("clause ")]
        self.assertEqual(heads, [f"clause {state} {name}" for state in sorted(both.states()) for name in "ab"])
        self.assertEqual((len(heads), heads[:3]), (128, ["clause a a", "clause a b", "clause aa a"]))
        self.refused(BadHandler, lambda: read_handler(handler_text(both)), "clauses")
        chain = Body({"a": 1}, [("ask", "a", [at + 1]) for at in range(399)] + [("end", "x")])
        body = chain.then({"x": chain.then({"x": chain})})
        self.assertEqual(body_text(body).split("\n")[-2:], [f"{len(body) - 1} end x", ""])
        self.refused(BadBody, lambda: read_body(body_text(body)), -1)


if __name__ == "__main__":
    import unittest
    unittest.main()
