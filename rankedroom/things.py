"""Things: their numbers, which is stronger, and how an answer tells them."""

THING_RANGES = ((0, 999), (1, 50), (0, 9), (1, 100000), (0, 7), (0, 1000))


class Thing:
    """A thing, free at first."""

    def __init__(self, six):
        self.number = six[0]
        self.size = six[1]
        self.rank = six[2]
        self.end = six[3]
        self.sender = six[4]
        self.worth = six[5]
        self.bound = False
        self.promised = False


class Comer(Thing):
    """A thing that comes at a moment."""

    def __init__(self, moment, six):
        Thing.__init__(self, six)
        self.moment = moment


def strength(thing):
    """A key by which the strongest comes first."""
    return (-thing.rank, -thing.end, thing.number)


def is_stronger(one, other):
    """Whether one is stronger than other."""
    return strength(one) < strength(other)


def strongest_first(things):
    """The things in the order of their strength."""
    return sorted(things, key=strength)


def without(things, gone):
    """The things but for those that have gone, in their order."""
    numbers = [thing.number for thing in gone]
    return [thing for thing in things if thing.number not in numbers]


def whole_worth(things):
    """The worths of all things added up."""
    return sum([thing.worth for thing in things])


def tell_things(things):
    """How many things, then the number of each."""
    return [len(things)] + [thing.number for thing in things]
