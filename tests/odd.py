"""Objects of many kinds, for the places of arguments where none of them is right."""

from askfurther.bodies import Body
from askfurther.errors import BadBody
from askfurther.handlers import Handler, passing
from askfurther.standing import Run, Stand
from askfurther.works import Work


def nested(depth, make, seed):
    """The seed with so many things around it."""
    thing = seed
    for _ in range(depth):
        thing = make(thing)
    return thing


def some():
    yield 1


class Plain:
    pass


SMALL = Body({"coin": 2}, [("ask", "coin", (0, 1)), ("end", "good")])

# Neither integers, nor names, nor rows, nor dicts.
NOTHINGS = [
    None, True, False, Ellipsis, NotImplemented, "", "Coin", "coin ", "two words", "abcdefghi", "\u00e4", "coin1",
    b"", b"coin", bytearray(b"coin"), memoryview(b"coin"), set(), {"coin"}, frozenset(), frozenset(("coin",)),
    range(2), slice(0, 1), int, str, list, Body, len, some, some(), iter([1]), iter({}), zip(), map(len, []),
    {"coin": 2}.keys(), {"coin": 2}.items(), {"coin": 2}.values(), enumerate([]), reversed([1]), lambda: 1, object(),
    Plain(), SMALL, passing(), Handler, BadBody(0), ValueError("coin"), property(), super(Plain), Stand(SMALL), Run(SMALL),
    Stand(SMALL)(0), Work({}, {}, [("main", [("end", "x")])]), Work,
]
INTEGERS = [-1, 10 ** 29, -(10 ** 29)]
ROWS = [
    [], (), [[]], [()], ((),), [None], [True], ["coin"], ("coin", 2), [{}], [set()], [SMALL], [bytearray()],
    nested(90, lambda thing: [thing], []), nested(90, lambda thing: (thing,), ()), nested(90, lambda thing: (0, thing), 0),
    nested(89, lambda thing: {"a": thing}, {}), [nested(89, lambda thing: {"a": [thing]}, 0)],
    [["ask", nested(80, lambda thing: [thing], []), nested(80, lambda thing: (thing,), ())]],
]
DICTS = [
    {1: 2}, {True: 2}, {None: 0}, {"coin": None}, {"coin": True}, {"coin": False}, {"coin": "2"}, {"coin": [2]},
    {"coin": -1}, {"coin": 7}, {"coin": 10 ** 29}, {"": 1}, {"Coin": 1}, {"abcdefghi": 1}, {"a b": 1}, {"a1": 1},
    {"\u00e4": 1}, {b"coin": 1}, {("coin",): 1}, {frozenset(): 1}, {"coin": 2, 3: 1}, {"coin": {}},
    {"coin": nested(89, lambda thing: [thing], [])}, {nested(89, lambda thing: (thing,), ()): 1},
    {"abcdefghi"[at:]: 1 for at in range(9)}, {"coin": SMALL, "toss": 1},
]
NO_ROWS = NOTHINGS + INTEGERS + ["coin"] + DICTS + [{}]
NO_NAMES = NOTHINGS + INTEGERS + ROWS + DICTS + [{}, 0, 1]
NO_INTEGERS = NOTHINGS + ROWS + DICTS + [{}, "coin", "0", "1"]
NO_OPERATIONS = NOTHINGS + INTEGERS + ROWS + DICTS + ["coin", 0, 1]
