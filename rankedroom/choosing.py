"""The best and the cheapest of all choices of things."""

from rankedroom.bounds import fit
from rankedroom.taking import may_go
from rankedroom.taking import may_not_go
from rankedroom.things import whole_worth


def all_choices(things):
    """Every choice of things, as a pair of those chosen and those left, each in the order of things.

    Of any two the later one has the last thing that just one of them has.
    """
    choices = [([], [])]
    for thing in things:
        without_it = [(chosen, left + [thing]) for chosen, left in choices]
        with_it = [(chosen + [thing], left) for chosen, left in choices]
        choices = without_it + with_it
    return choices


def merit(chosen):
    """A key that is greater with more worth, then with fewer things."""
    return (whole_worth(chosen), -len(chosen))


def cost(chosen):
    """A key that is less with less worth, then with fewer things."""
    return (whole_worth(chosen), len(chosen))


def best_choice(things, allowed):
    """The best of the choices that are allowed; the empty one always is."""
    best = []
    for chosen, left in all_choices(things):
        # Of two of one merit the later one is asked for, so it takes the other's place.
        if merit(chosen) >= merit(best) and allowed(chosen):
            best = chosen
    return best


def cheapest_choice(bounds, held, thing):
    """The cheapest choice, the weakest first, of what may go for thing, which is taken."""
    weakest_first = list(reversed(may_go(held, thing)))
    staying = may_not_go(held, thing) + [thing]
    # Thing is taken, so it fits if all of these go.
    cheapest = weakest_first
    for chosen, left in all_choices(weakest_first):
        # Of two of one cost the later one has the strongest thing that just one of them has.
        if cost(chosen) <= cost(cheapest) and fit(bounds, staying + left):
            cheapest = chosen
    return cheapest
