"""How the calls lie one behind another in a line, and how things lie in a call's row."""

from rankedroom.refusals import in_ranges
from rankedroom.things import Comer
from rankedroom.things import THING_RANGES
from rankedroom.things import Thing

ROW_CALLS = (1, 17, 18, 19, 20, 21, 22, 25, 28)
# A call with a row has no plain numbers, so its place here is never asked.
PLAIN_COUNTS = (1, 0, 1, 6, 6, 6, 1, 2, 6, 1, 1, 1, 0, 1, 0, 3, 1, 0, 0, 0, 0, 0, 0, 1, 0, 0, 1, 6, 0, 0)
MOMENT_RANGE = ((0, 100000),)
THING_WIDTH = 6
COMER_WIDTH = 7


def split_calls(calls):
    """The calls of a line: for each its number, and a list of its numbers or of its row's."""
    found = []
    at = 0
    while at < len(calls):
        number = calls[at]
        if number in ROW_CALLS:
            first = at + 2
            count = calls[at + 1]
        else:
            first = at + 1
            count = PLAIN_COUNTS[number]
        at = first + count
        found.append((number, calls[first:at]))
    return found


def cut(numbers, width):
    """The numbers in pieces of that width; the last piece is shorter if they do not come out even."""
    return [numbers[at:at + width] for at in range(0, len(numbers), width)]


def no_number_twice(things):
    """Whether no two things have one number."""
    return len(set([thing.number for thing in things])) == len(things)


def read_things(row, most):
    """The things of a row, in the order told, or None if they are not as told or are more than most."""
    pieces = cut(row, THING_WIDTH)
    if len(pieces) > most:
        return None
    for six in pieces:
        if not in_ranges(six, THING_RANGES):
            return None
    things = [Thing(six) for six in pieces]
    return things if no_number_twice(things) else None


def read_comer(seven):
    """The thing that comes, its moment told first, or None if it is not as told."""
    six = seven[1:]
    if not in_ranges(seven[:1], MOMENT_RANGE) or not in_ranges(six, THING_RANGES):
        return None
    comer = Comer(seven[0], six)
    return comer if comer.moment < comer.end else None


def read_comers(row, most):
    """The things of a row that come at moments, in the order told, or None as with read_things."""
    pieces = cut(row, COMER_WIDTH)
    if len(pieces) > most:
        return None
    comers = []
    for seven in pieces:
        comer = read_comer(seven)
        if comer is None:
            return None
        comers.append(comer)
    return comers if no_number_twice(comers) else None
