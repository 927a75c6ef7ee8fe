"""Whether something is taken into a store, and what goes for it."""

from rankedroom.bounds import fit
from rankedroom.things import Thing
from rankedroom.things import is_stronger

MOST_SIZE = 50
# One more than any thing's number: of its rank and end it is the weakest.
NUMBER_OF_NONE = 1000


def may_go(held, thing):
    """The held things that may go for thing, in the order in which they are held."""
    return [other for other in held if is_stronger(thing, other) and not other.bound]


def may_not_go(held, thing):
    """The held things that may not go for thing, in the order in which they are held."""
    return [other for other in held if other.bound or not is_stronger(thing, other)]


def is_taken(bounds, held, thing):
    """Whether thing is taken beside the held things."""
    return fit(bounds, may_not_go(held, thing) + [thing])


def gone_for(bounds, held, thing):
    """What goes for thing, which is taken; held and the answer have the strongest first."""
    # What fits still fits with fewer things beside it. So those that need not go at all are just
    # the first ones that would come back, had all gone: one walk from the strongest on does both.
    there = may_not_go(held, thing) + [thing]
    gone = []
    for other in may_go(held, thing):
        if fit(bounds, there + [other]):
            there.append(other)
        else:
            gone.append(other)
    return gone


def greatest_size(bounds, held, rank, end, sender):
    """The greatest size with which such a thing is taken; 0 if there is none."""
    # Size does not count for strength, so the same things may not go for it, whatever its size.
    staying = may_not_go(held, Thing([NUMBER_OF_NONE, MOST_SIZE, rank, end, sender, 0]))
    for size in range(MOST_SIZE, 0, -1):
        if fit(bounds, staying + [Thing([NUMBER_OF_NONE, size, rank, end, sender, 0])]):
            return size
    return 0
