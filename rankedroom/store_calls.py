"""The calls on the store: each takes the state and the call's numbers, and gives back its answer."""

from rankedroom.bounds import Bounds
from rankedroom.bounds import broken_bounds
from rankedroom.bounds import fit
from rankedroom.bounds import sizes_of_senders
from rankedroom.bounds import sizes_up_to_ranks
from rankedroom.bounds import whole_size
from rankedroom.choosing import cheapest_choice
from rankedroom.refusals import ALREADY_ENDED
from rankedroom.refusals import ALREADY_THERE
from rankedroom.refusals import BEYOND_BOUNDS
from rankedroom.refusals import NOT_IN_THAT_STATE
from rankedroom.refusals import NOT_REFUSED
from rankedroom.refusals import NOT_THERE
from rankedroom.refusals import OUT_OF_RANGE
from rankedroom.refusals import STORE_FULL
from rankedroom.refusals import TOO_MANY_MAY_GO
from rankedroom.refusals import in_ranges
from rankedroom.state import find_thing
from rankedroom.state import let_go
from rankedroom.state import put_in
from rankedroom.state import start_anew
from rankedroom.taking import gone_for
from rankedroom.taking import greatest_size
from rankedroom.taking import is_taken
from rankedroom.taking import may_go
from rankedroom.taking import may_not_go
from rankedroom.things import THING_RANGES
from rankedroom.things import Thing
from rankedroom.things import tell_things
from rankedroom.things import whole_worth

MOST_THINGS = 40
LAST_MOMENT = 100000
BOUND_RANGE = ((0, 200),)
LIMIT_RANGES = ((0, 200), (0, 200), (0, 200), (0, 200), (0, 200),
                (0, 200), (0, 200), (0, 200), (0, 200), (0, 200))
NUMBER_RANGE = ((0, 999),)
BIND_RANGES = ((0, 999), (0, 1))
TICK_RANGE = ((0, 1000),)
GREATEST_RANGES = ((0, 9), (1, 100000), (0, 7))
GOES_RANGE = ((0, 200),)
LASTS_RANGE = ((0, 100000),)
SURE_RANGE = ((0, 9),)
MOST_TO_CHOOSE = 12


def change_bounds(state, bounds):
    """Set the bounds, unless the store's things would not fit within them."""
    if not fit(bounds, state.things):
        return [BEYOND_BOUNDS]
    state.bounds = bounds
    return [0]


def room_call(state, numbers):
    """Call 0."""
    if not in_ranges(numbers, BOUND_RANGE):
        return [OUT_OF_RANGE]
    return change_bounds(state, Bounds(numbers[0], state.bounds.limits, state.bounds.share))


def limits_call(state, numbers):
    """Call 1."""
    if not in_ranges(numbers, LIMIT_RANGES):
        return [OUT_OF_RANGE]
    return change_bounds(state, Bounds(state.bounds.room, numbers, state.bounds.share))


def share_call(state, numbers):
    """Call 2."""
    if not in_ranges(numbers, BOUND_RANGE):
        return [OUT_OF_RANGE]
    return change_bounds(state, Bounds(state.bounds.room, state.bounds.limits, numbers[0]))


def refusal_of_new(state, numbers):
    """What refuses a new thing of these numbers."""
    if not in_ranges(numbers, THING_RANGES):
        return OUT_OF_RANGE
    thing = Thing(numbers)
    if find_thing(state, thing.number) is not None:
        return ALREADY_THERE
    if thing.end <= state.moment:
        return ALREADY_ENDED
    if len(state.things) >= MOST_THINGS:
        return STORE_FULL
    return NOT_REFUSED


def take_in(state, thing):
    """Take thing into the store, if it is taken; the answer of arrive."""
    if not is_taken(state.bounds, state.things, thing):
        return [0]
    gone = gone_for(state.bounds, state.things, thing)
    let_go(state, gone)
    put_in(state, thing)
    return [1] + tell_things(gone)


def arrive_call(state, numbers):
    """Call 3."""
    refusal = refusal_of_new(state, numbers)
    if refusal != NOT_REFUSED:
        return [refusal]
    return take_in(state, Thing(numbers))


def would_call(state, numbers):
    """Call 4."""
    refusal = refusal_of_new(state, numbers)
    if refusal != NOT_REFUSED:
        return [refusal]
    thing = Thing(numbers)
    if not is_taken(state.bounds, state.things, thing):
        return [0]
    return [1] + tell_things(gone_for(state.bounds, state.things, thing))


def why_call(state, numbers):
    """Call 5."""
    refusal = refusal_of_new(state, numbers)
    if refusal != NOT_REFUSED:
        return [refusal]
    thing = Thing(numbers)
    broken = broken_bounds(state.bounds, may_not_go(state.things, thing) + [thing])
    answer = [len(broken)]
    for pair in broken:
        answer.extend(pair)
    return answer


def refusal_of_number(state, numbers, ranges):
    """What refuses a call on the thing in the store whose number comes first."""
    if not in_ranges(numbers, ranges):
        return OUT_OF_RANGE
    if find_thing(state, numbers[0]) is None:
        return NOT_THERE
    return NOT_REFUSED


def drop_call(state, numbers):
    """Call 6."""
    refusal = refusal_of_number(state, numbers, NUMBER_RANGE)
    if refusal != NOT_REFUSED:
        return [refusal]
    thing = find_thing(state, numbers[0])
    if thing.bound:
        return [NOT_IN_THAT_STATE]
    let_go(state, [thing])
    return [len(state.things)]


def bind_call(state, numbers):
    """Call 7."""
    refusal = refusal_of_number(state, numbers, BIND_RANGES)
    if refusal != NOT_REFUSED:
        return [refusal]
    thing = find_thing(state, numbers[0])
    if thing.promised:
        return [NOT_IN_THAT_STATE]
    thing.bound = numbers[1] == 1
    return [0]


def promise_call(state, numbers):
    """Call 8."""
    refusal = refusal_of_new(state, numbers)
    if refusal != NOT_REFUSED:
        return [refusal]
    thing = Thing(numbers)
    thing.bound = True
    thing.promised = True
    return take_in(state, thing)


def refusal_of_promised(state, numbers):
    """What refuses a call on a promised thing."""
    refusal = refusal_of_number(state, numbers, NUMBER_RANGE)
    if refusal != NOT_REFUSED:
        return refusal
    if not find_thing(state, numbers[0]).promised:
        return NOT_IN_THAT_STATE
    return NOT_REFUSED


def fulfil_call(state, numbers):
    """Call 9."""
    refusal = refusal_of_promised(state, numbers)
    if refusal != NOT_REFUSED:
        return [refusal]
    thing = find_thing(state, numbers[0])
    thing.bound = False
    thing.promised = False
    return [0]


def cancel_call(state, numbers):
    """Call 10."""
    refusal = refusal_of_promised(state, numbers)
    if refusal != NOT_REFUSED:
        return [refusal]
    let_go(state, [find_thing(state, numbers[0])])
    return [len(state.things)]


def tick_call(state, numbers):
    """Call 11."""
    if not in_ranges(numbers, TICK_RANGE):
        return [OUT_OF_RANGE]
    moment = state.moment + numbers[0]
    if moment > LAST_MOMENT:
        return [BEYOND_BOUNDS]
    state.moment = moment
    ended = [thing for thing in state.things if thing.end <= moment]
    let_go(state, ended)
    return [moment] + tell_things(ended)


def items_call(state, numbers):
    """Call 12."""
    return tell_things(state.things)


def item_call(state, numbers):
    """Call 13."""
    refusal = refusal_of_number(state, numbers, NUMBER_RANGE)
    if refusal != NOT_REFUSED:
        return [refusal]
    thing = find_thing(state, numbers[0])
    six = [thing.number, thing.size, thing.rank, thing.end, thing.sender, thing.worth]
    return six + [1 if thing.bound else 0, 1 if thing.promised else 0]


def used_call(state, numbers):
    """Call 14."""
    answer = [state.moment, state.bounds.room, whole_size(state.things), len(state.things)]
    return answer + sizes_up_to_ranks(state.things)


def greatest_call(state, numbers):
    """Call 15."""
    if not in_ranges(numbers, GREATEST_RANGES):
        return [OUT_OF_RANGE]
    if numbers[1] <= state.moment:
        return [0]
    return [greatest_size(state.bounds, state.things, numbers[0], numbers[1], numbers[2])]


def goes_call(state, numbers):
    """Call 16."""
    if not in_ranges(numbers, GOES_RANGE):
        return [OUT_OF_RANGE]
    going = []
    for thing in reversed(state.things):
        if not thing.bound and whole_size(going) < numbers[0]:
            going.append(thing)
    return tell_things(going)


def lasts_call(state, numbers):
    """Call 23."""
    if not in_ranges(numbers, LASTS_RANGE):
        return [OUT_OF_RANGE]
    return tell_things([thing for thing in state.things if thing.end <= numbers[0]])


def senders_call(state, numbers):
    """Call 24."""
    return sizes_of_senders(state.things)


def sure_call(state, numbers):
    """Call 26."""
    if not in_ranges(numbers, SURE_RANGE):
        return [OUT_OF_RANGE]
    rank = numbers[0]
    if rank == 0:
        return [0]
    return [max(0, state.bounds.room - state.bounds.limits[rank - 1])]


def cheapest_call(state, numbers):
    """Call 27."""
    refusal = refusal_of_new(state, numbers)
    if refusal != NOT_REFUSED:
        return [refusal]
    thing = Thing(numbers)
    if len(may_go(state.things, thing)) > MOST_TO_CHOOSE:
        return [TOO_MANY_MAY_GO]
    if not is_taken(state.bounds, state.things, thing):
        return [0]
    chosen = cheapest_choice(state.bounds, state.things, thing)
    return [1, whole_worth(chosen)] + tell_things(chosen)


def clear_call(state, numbers):
    """Call 29."""
    start_anew(state)
    return [0]


STORE_CALLS = {0: room_call, 1: limits_call, 2: share_call, 3: arrive_call, 4: would_call, 5: why_call, 6: drop_call,
               7: bind_call, 8: promise_call, 9: fulfil_call, 10: cancel_call, 11: tick_call, 12: items_call,
               13: item_call, 14: used_call, 15: greatest_call, 16: goes_call, 23: lasts_call, 24: senders_call,
               26: sure_call, 27: cheapest_call, 29: clear_call}


def answer_store_call(state, number, numbers):
    """The answer to one of these calls, by its number."""
    call = STORE_CALLS[number]
    return call(state, numbers)
