"""Whether something is taken into a store, and what goes for it."""

from rankedroom.bounds import fit
from rankedroom.things import is_stronger


def may_go(held, thing):
    """The held things that may go for thing, in the order in which they are held."""
    return [other for other in held if is_stronger(thing, other) and not other.bound]


def may_not_go(held, thing):
    """The held things that may not go for thing, in the order in which they are held."""
    return [other for other in held if other.bound or not is_stronger(thing, other)]


def is_taken(bounds, held, thing):
    """Whether thing is taken beside the held things."""
    return fit(bounds, may_not_go(held, thing) + [thing])


def gone_for(bounds, held, thing):
    """What goes for thing, which is taken; held and the answer have the strongest first."""
    # What fits still fits with fewer things beside it. So those that need not go at all are just
    # the first ones that would come back, had all gone: one walk from the strongest on does both.
    there = may_not_go(held, thing) + [thing]
    gone = []
    for other in may_go(held, thing):
        if fit(bounds, there + [other]):
            there.append(other)
        else:
            gone.append(other)
    return gone
