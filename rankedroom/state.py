"""What one object keeps between its calls."""

from rankedroom.bounds import Bounds
from rankedroom.bounds import RANKS
from rankedroom.things import strength


class State:
    """The bounds, the present moment, and the store's things with the strongest first."""

    def __init__(self):
        self.bounds = Bounds(20, [200] * RANKS, 200)
        self.moment = 0
        self.things = []


def find_thing(state, number):
    """The thing of that number in the store, or None."""
    for thing in state.things:
        if thing.number == number:
            return thing
    return None


def put_in(state, thing):
    """Put thing into the store, at its place by strength."""
    state.things = sorted(state.things + [thing], key=strength)


def let_go(state, gone):
    """Let these things go out of the store."""
    numbers = [thing.number for thing in gone]
    state.things = [thing for thing in state.things if thing.number not in numbers]
