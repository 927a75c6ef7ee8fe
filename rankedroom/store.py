"""The program's one function: a line of calls in, their answers out."""

from rankedroom.calls import answer_call
from rankedroom.reading import split_calls
from rankedroom.state import State


def answers(calls):
    """For each call, in order, how many numbers are answered, then these."""
    state = State()
    told = []
    for number, numbers in split_calls(calls):
        answer = answer_call(state, number, numbers)
        told.append(len(answer))
        told.extend(answer)
    return told
