"""The calls on a list of things or of what is asked: the bounds count for them, the store does not."""

from rankedroom.bounds import fit
from rankedroom.choosing import best_choice
from rankedroom.coming import all_orders
from rankedroom.coming import can_all_be_kept
from rankedroom.coming import kept_by_the_rule
from rankedroom.coming import kept_greedily
from rankedroom.coming import kept_in_turn
from rankedroom.reading import read_comers
from rankedroom.reading import read_things
from rankedroom.refusals import OUT_OF_RANGE
from rankedroom.refusals import in_ranges
from rankedroom.sharing import fair_shares
from rankedroom.things import tell_things
from rankedroom.things import whole_worth

MOST_KEPT = 20
MOST_ORDERED = 5
MOST_CHOSEN = 10
MOST_ASKING = 8
ASKED_RANGE = (0, 1000)


def tell_worth_and_things(things):
    """The worth of things, then they."""
    return [whole_worth(things)] + tell_things(things)


def kept_call(bounds, row):
    """Call 17."""
    things = read_things(row, MOST_KEPT)
    if things is None:
        return [OUT_OF_RANGE]
    return tell_things(kept_in_turn(bounds, things))


def order_call(bounds, row):
    """Call 18."""
    things = read_things(row, MOST_ORDERED)
    if things is None:
        return [OUT_OF_RANGE]
    as_told = tell_things(kept_in_turn(bounds, things))
    for order in all_orders(things):
        kept = tell_things(kept_in_turn(bounds, order))
        if kept != as_told:
            return [0] + tell_things(order) + kept
    return [1]


def greedy_call(bounds, row):
    """Call 19."""
    things = read_things(row, MOST_KEPT)
    if things is None:
        return [OUT_OF_RANGE]
    return tell_things(kept_greedily(bounds, things))


def best_call(bounds, row):
    """Call 20."""
    things = read_things(row, MOST_CHOSEN)
    if things is None:
        return [OUT_OF_RANGE]
    return tell_worth_and_things(best_choice(things, lambda chosen: fit(bounds, chosen)))


def online_call(bounds, row):
    """Call 21."""
    comers = read_comers(row, MOST_CHOSEN)
    if comers is None:
        return [OUT_OF_RANGE]
    return tell_worth_and_things(kept_by_the_rule(bounds, comers))


def known_call(bounds, row):
    """Call 22."""
    comers = read_comers(row, MOST_CHOSEN)
    if comers is None:
        return [OUT_OF_RANGE]
    return tell_worth_and_things(best_choice(comers, lambda chosen: can_all_be_kept(bounds, chosen)))


def fair_call(bounds, row):
    """Call 25."""
    if len(row) < 1 or len(row) > MOST_ASKING or not in_ranges(row, [ASKED_RANGE] * len(row)):
        return [OUT_OF_RANGE]
    answer = [len(row)]
    for share in fair_shares(bounds.room, row):
        answer.extend(share)
    return answer


def ends_call(bounds, row):
    """Call 28."""
    things = read_things(row, MOST_ORDERED)
    if things is None:
        return [OUT_OF_RANGE]
    ends = []
    for order in all_orders(things):
        end = tell_worth_and_things(kept_in_turn(bounds, order))
        if end not in ends:
            ends.append(end)
    answer = [len(ends)]
    for end in ends:
        answer.extend(end)
    return answer


LIST_CALLS = {17: kept_call, 18: order_call, 19: greedy_call, 20: best_call, 21: online_call, 22: known_call,
              25: fair_call, 28: ends_call}


def is_list_call(number):
    """Whether the call of that number is one of these."""
    return number in LIST_CALLS


def answer_list_call(bounds, number, row):
    """The answer to one of these calls, by its number."""
    call = LIST_CALLS[number]
    return call(bounds, row)
