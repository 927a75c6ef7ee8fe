"""What is kept of things that come to an empty store: one after another, or at moments."""

from rankedroom.bounds import fit
from rankedroom.taking import gone_for
from rankedroom.taking import is_taken
from rankedroom.things import strongest_first
from rankedroom.things import without


def held_after(bounds, held, thing):
    """What is held, the strongest first, after thing has come, taken or not."""
    if not is_taken(bounds, held, thing):
        return held
    gone = gone_for(bounds, held, thing)
    return strongest_first(without(held, gone) + [thing])


def kept_in_turn(bounds, things):
    """What is kept in the end, the strongest first, if things come one after another."""
    held = []
    for thing in things:
        held = held_after(bounds, held, thing)
    return held


def all_orders(things):
    """All orders of things: by who comes first, in the order told, then by who comes second, and so on."""
    orders = [[]]
    for length in range(len(things)):
        longer = []
        for order in orders:
            longer.extend([order + [thing] for thing in without(things, order)])
        orders = longer
    return orders


def kept_greedily(bounds, things):
    """What is kept, the strongest first, if the strongest is asked first and all that fits is kept."""
    kept = []
    for thing in strongest_first(things):
        if fit(bounds, kept + [thing]):
            kept.append(thing)
    return kept


def coming_moment(comer):
    """A key by which the one that comes first is first."""
    return comer.moment


def kept_by_the_rule(bounds, comers):
    """What the store's rule keeps to the end: those that ended, by when they were let go, then what is held."""
    held = []
    ended = []
    # Sorting leaves those of one moment in the order told.
    for comer in sorted(comers, key=coming_moment):
        over = [other for other in held if other.end <= comer.moment]
        ended.extend(over)
        held = held_after(bounds, without(held, over), comer)
    return ended + held


def can_all_be_kept(bounds, comers):
    """Whether at each moment those of the comers that are there then fit together."""
    # After a moment at which one comes there are only fewer until the next comes: these moments are enough.
    for comer in comers:
        there = [other for other in comers if other.moment <= comer.moment and other.end > comer.moment]
        if not fit(bounds, there):
            return False
    return True
