"""Heaps: things that wait, of which the one with the least number is taken first."""


class Heap:
    """Tuples (number, serial number, thing, origin), no one less than the one at half its place.

    The serial number keeps things from being compared; of equal numbers the first one put in is taken first.
    """

    def __init__(self):
        self.things = []
        self.serial = 0

    def put(self, number, thing, origin):
        """Puts a thing in."""
        self.serial += 1
        told = (number, self.serial, thing, origin)
        things = self.things
        things.append(told)
        place = len(things) - 1
        while place > 0 and told < things[(place - 1) // 2]:
            things[place] = things[(place - 1) // 2]
            place = (place - 1) // 2
        things[place] = told

    def take(self):
        """Takes out the thing with the least number, as a tuple (number, thing, origin); there must be one."""
        number, serial, thing, origin = self.things[0]
        last = self.things.pop()
        if self.things:
            sink(self.things, last)
        return number, thing, origin


def sink(things, told):
    """Puts this in the place of the top one, and what is less over it."""
    place = 0
    below = 1
    while below < len(things):
        if below + 1 < len(things) and things[below + 1] < things[below]:
            below += 1
        if told < things[below]:
            break
        things[place] = things[below]
        place = below
        below = 2 * place + 1
    things[place] = told
