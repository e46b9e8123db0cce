"""Numbers for unlike things, in the order in which they come."""

from askfurther.errors import TooMany

MOST = 4000


class Numbering:
    """The unlike things that came so far, at most 4,000 if they are bounded."""

    def __init__(self, bounded):
        self.bounded = bounded
        self.numbers = {}
        self.things = []

    def number(self, thing):
        """The number of a thing, a new one if it has not come before."""
        if thing not in self.numbers:
            if self.bounded and len(self.things) == MOST:
                raise TooMany(MOST)
            self.numbers[thing] = len(self.things)
            self.things.append(thing)
        return self.numbers[thing]
