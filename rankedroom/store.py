"""The program's one function: a line of calls in, their answers out."""

from rankedroom.list_calls import answer_list_call
from rankedroom.list_calls import is_list_call
from rankedroom.reading import split_calls
from rankedroom.state import State
from rankedroom.store_calls import answer_store_call


def answer_call(state, number, numbers):
    """The answer to one call, by its number."""
    if is_list_call(number):
        return answer_list_call(state.bounds, number, numbers)
    return answer_store_call(state, number, numbers)


def answers(calls):
    """For each call, in order, how many numbers are answered, then these."""
    state = State()
    told = []
    for number, numbers in split_calls(calls):
        answer = answer_call(state, number, numbers)
        told.append(len(answer))
        told.extend(answer)
    return told
