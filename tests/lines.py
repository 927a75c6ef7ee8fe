"""What the tests share: calls written by name, and lines of them run."""

import unittest

from rankedroom.store import answers

LEAST = -9223372036854775808
GREATEST = 9223372036854775807

CALL_NAMES = ("room limits share arrive would why drop bind promise fulfil cancel tick items item used "
              "greatest goes kept order greedy best online known lasts senders fair sure cheapest ends "
              "clear").split()


def call(name, *given):
    """One call as it lies in a line; a list among what is given is a row."""
    laid = [CALL_NAMES.index(name)]
    for value in given:
        if isinstance(value, list):
            laid.append(len(value))
            laid.extend(value)
        else:
            laid.append(value)
    return laid


def thing(number, size=1, rank=0, end=100, sender=0, worth=0):
    return (number, size, rank, end, sender, worth)


def comer(moment, *given, **named):
    return (moment,) + thing(*given, **named)


def row(*things):
    """Things as they lie in a call's row."""
    return [number for one in things for number in one]


THING_RANGES = [(0, 999), (1, 50), (0, 9), (1, 100000), (0, 7), (0, 1000)]
# The calls on a list of things: how many numbers a thing has, and how many things there may be.
LISTS = {"kept": (6, 20), "order": (6, 5), "greedy": (6, 20), "best": (6, 10), "online": (7, 10), "known": (7, 10),
         "ends": (6, 5)}
# Of these there are at most 20 in a line.
RARE = ("best", "known", "cheapest", "order", "ends")
# Forty things, with room left.
FULL = [call("room", 200)] + [call("arrive", *thing(k, 1, k % 3, 10 + k)) for k in range(40)]


def join(calls):
    return [number for one in calls for number in one]


def split(told):
    """The answers of a line, one list each."""
    found = []
    at = 0
    while at < len(told):
        count = told[at]
        assert 0 < count <= len(told) - at - 1, (count, at, len(told))
        found.append(told[at + 1:at + 1 + count])
        at += 1 + count
    return found


def run(*calls):
    found = split(answers(join(calls)))
    assert len(found) == len(calls), (len(found), len(calls))
    return found


def last(*calls):
    return run(*calls)[-1]


def probes(setup):
    """Calls that show all that an object holds: its moment, its bounds, its things, bound or not."""
    found = [call("used"), call("items")]
    numbers = sorted({one[1] for one in setup if one[0] in (3, 8) and 0 <= one[1] <= 999})
    found += [call("item", number) for number in numbers]
    for sender in range(8):
        found.append(call("why", *thing(999, 50, 0, 100000, sender)))
    for rank in range(10):
        for size in (1, 2, 3, 5, 8, 13, 21, 34, 50):
            found.append(call("why", *thing(999, size, rank, 100000, 7)))
    for number in numbers:
        found.append(call("would", *thing(999, 1, 9, 100000, 7)))
        found.append(call("bind", number, 0))
        found.append(call("would", *thing(999, 50, 9, 100000, 7)))
    # Filling the store shows bounds that are too wide for a single thing to break.
    found += [call("room", 200), call("share", 200)]
    for k in range(8):
        found.append(call("arrive", *thing(990 + k, 30, k, 99990, k)))
        found.append(call("why", *thing(998, 50, k + 1, 99990, k)))
    found += [call("used"), call("items"), call("tick", 7), call("tick", 1000), call("items")]
    return found


class LineCase(unittest.TestCase):
    """Asserts on single calls of a line."""

    maxDiff = None

    def changes_nothing(self, setup, one):
        """The call's answer, once it is seen that all others are answered as without it."""
        shown = probes(setup)
        without = run(*setup, *shown)
        with_it = run(*setup, one, *shown)
        self.assertEqual(with_it[:len(setup)], without[:len(setup)])
        self.assertEqual(with_it[len(setup) + 1:], without[len(setup):], one)
        return with_it[len(setup)]

    def refused(self, refusal, setup, one):
        self.assertEqual(self.changes_nothing(setup, one), [refusal], one)

    def told(self, answer, *calls):
        self.assertEqual(last(*calls), answer, calls[-1])

    def ranges_held(self, setup, name, ranges, right):
        """Each number one beyond its range, or far beyond, is refused; right is a call's numbers in range."""
        for place, (low, high) in enumerate(ranges):
            for wrong in (low - 1, high + 1, LEAST, GREATEST):
                given = list(right)
                given[place] = wrong
                self.refused(-1, setup, call(name, *given))
            for edge in (low, high):
                given = list(right)
                given[place] = edge
                self.assertNotEqual(last(*setup, call(name, *given)), [-1], (name, given))
