"""Things: their six numbers, which is stronger, and how an answer tells them."""

THING_RANGES = ((0, 999), (1, 50), (0, 9), (1, 100000), (0, 7), (0, 1000))


class Thing:
    """A thing, free at first."""

    def __init__(self, six):
        self.number = six[0]
        self.size = six[1]
        self.rank = six[2]
        self.end = six[3]
        self.sender = six[4]
        self.worth = six[5]
        self.bound = False
        self.promised = False


def strength(thing):
    """A key by which the strongest comes first."""
    return (-thing.rank, -thing.end, thing.number)


def is_stronger(one, other):
    """Whether one is stronger than other."""
    return strength(one) < strength(other)


def tell_things(things):
    """How many things, then the number of each."""
    return [len(things)] + [thing.number for thing in things]
