"""What one object keeps between its calls."""

from rankedroom.bounds import Bounds
from rankedroom.bounds import RANKS
from rankedroom.things import strongest_first
from rankedroom.things import without


class State:
    """The bounds, the present moment, and the store's things with the strongest first."""

    def __init__(self):
        self.bounds = Bounds(20, [200] * RANKS, 200)
        self.moment = 0
        self.things = []


def start_anew(state):
    """Make all as before the first call."""
    fresh = State()
    state.bounds = fresh.bounds
    state.moment = fresh.moment
    state.things = fresh.things


def find_thing(state, number):
    """The thing of that number in the store, or None."""
    for thing in state.things:
        if thing.number == number:
            return thing
    return None


def put_in(state, thing):
    """Put thing into the store, at its place by strength."""
    state.things = strongest_first(state.things + [thing])


def let_go(state, gone):
    """Let these things go out of the store."""
    state.things = without(state.things, gone)
