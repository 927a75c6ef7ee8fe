"""Many lines, drawn from written seeds, answered as the model answers them."""

import random
import unittest

from rankedroom.store import answers
from tests.lines import CALL_NAMES, GREATEST, LEAST, LISTS, RARE, call, join, row, split
from tests.model import Model

WRONG = (LEAST, -2, -1, 0, 51, 201, 1000, 1001, 100001, GREATEST)


class Draw:
    """Draws calls; the sizes and spans are drawn once a line, so that lines are unlike."""

    def __init__(self, seed):
        self.random = random.Random(seed)
        self.numbers = self.random.choice((6, 20, 60))
        self.size = self.random.choice((1, 3, 8, 50))
        self.ranks = self.random.choice((2, 4, 10))
        self.ends = self.random.choice((5, 60, 2000))
        self.senders = self.random.choice((1, 3, 8))
        self.ticks = self.random.choice((1, 3, 20))
        self.bound = self.random.choice((12, 40, 200))
        self.worths = self.random.choice((1, 4, 1000))
        self.now = 0

    def up_to(self, most):
        return self.random.randint(0, most)

    def new(self):
        return [self.up_to(self.numbers), self.random.randint(1, self.size), self.up_to(self.ranks - 1),
                min(100000, max(1, self.now + self.up_to(self.ends))), self.up_to(self.senders - 1), self.up_to(self.worths)]

    def list_of(self, name):
        """A list of things, seldom one thing too long, most of the time with no number twice."""
        width, most = LISTS[name]
        count = self.up_to(min(most, self.random.choice((3, 6, 20))) + (self.up_to(20) == 0))
        numbers = self.random.sample(range(max(self.numbers, 30)), min(count, 120 // width))
        found = []
        for number in numbers:
            new = self.new()
            if self.up_to(60):
                new[0] = number
            # A moment that is mostly before the end, and often another thing's.
            moment = new[3] - self.up_to(min(self.ends, new[3])) - (self.up_to(60) > 0)
            found.append(new if width == 6 else [max(0, moment)] + new)
        return row(*found)

    def given(self, name):
        if name in LISTS:
            return [self.list_of(name)]
        if name == "fair":
            return [[self.up_to(self.random.choice((5, 60, 1000))) for k in range(self.random.randint(1, 8))]]
        if name in ("arrive", "would", "why", "promise", "cheapest"):
            return self.new()
        if name == "greatest":
            return self.new()[2:5]
        if name == "goes":
            return [self.up_to(self.random.choice((5, 30, 200)))]
        if name == "lasts":
            return [min(100000, self.now + self.up_to(self.ends))]
        if name == "sure":
            return [self.up_to(9)]
        if name in ("room", "share"):
            return [self.random.randint(self.bound // 2, self.bound)]
        if name == "limits":
            limits = [self.random.randint(self.bound // 3, self.bound) for rank in range(10)]
            return [limits if self.up_to(1) else sorted(limits)]
        if name in ("drop", "fulfil", "cancel", "item"):
            return [self.up_to(self.numbers)]
        if name == "bind":
            return [self.up_to(self.numbers), self.up_to(1)]
        if name == "tick":
            return [self.up_to(self.ticks)]
        return []

    def one(self):
        if self.up_to(150) == 0:
            return call("clear")
        name = self.random.choice(self.names)
        given = self.given(name)
        if given and self.up_to(40) == 0:
            wrong = given[0] if isinstance(given[0], list) else given
            if wrong:
                wrong[self.up_to(len(wrong) - 1)] = self.random.choice(WRONG)
            if wrong is not given and self.up_to(3) == 0:
                wrong.append(self.up_to(9))
        return call(name, *given)

    def line(self, model):
        """A line that the interface allows, and what the model answers."""
        calls, found, rare, length = [], [], 0, 0
        while len(calls) < 400:
            one = self.one()
            rare += CALL_NAMES[one[0]] in RARE
            length += len(one)
            if length > 16000:
                break
            if rare <= 20 or CALL_NAMES[one[0]] not in RARE:
                calls.append(one)
                found.append(model.ask(one))
                self.now = model.now
        return calls, found


class Tight:
    """Draws short lines in which little fits, and things are often alike in rank, end or worth."""

    def __init__(self, seed):
        self.random = random.Random(seed)
        self.room = self.random.randint(6, 30)
        self.size = self.random.choice((2, self.room // 2, self.room))
        self.ranks = self.random.choice((1, 3, 10))
        self.ends = self.random.choice((2, 6, 40))
        self.senders = self.random.choice((1, 2, 8))
        self.worths = self.random.choice((1, 3, 20))

    def new(self, number):
        draw = self.random.randint
        return [number, draw(1, self.size), draw(0, self.ranks - 1), draw(1, self.ends), draw(0, self.senders - 1),
                draw(0, self.worths)]

    def list_of(self, name):
        width, most = LISTS[name]
        count = self.random.randint(2, min(most, 8 if name in RARE else most))
        found = [self.new(number) for number in self.random.sample(range(1000), count)]
        if width == 7:
            found = [[self.random.randint(0, new[3] - 1)] + new for new in found]
        return row(*found)

    def line(self):
        draw = self.random.randint
        calls = [call("room", self.room), call("share", draw(self.room // 2, self.room + 9))]
        calls.append(call("limits", [draw(self.room // 2, self.room + 9) for rank in range(10)]))
        for name in LISTS:
            calls += [call(name, self.list_of(name)) for k in range(3)]
        calls += [call("arrive", *self.new(number)) for number in self.random.sample(range(1000), 16)]
        calls += [call("bind", one[1], draw(0, 5) // 5) for one in calls[-16:]]
        for number in (1000 - 1, 0):
            calls.append(call("cheapest", number, draw(1, self.room), draw(self.ranks - 1, 9), draw(1, 40), 0, 0))
            calls.append(call("greatest", draw(0, 9), draw(1, 40), draw(0, 7)))
            calls.append(call("goes", draw(0, self.room)))
        return calls


class AsTheModel(unittest.TestCase):
    def test_tight_lines(self):
        for seed in range(150):
            calls, model = Tight(seed).line(), Model()
            told = split(answers(join(calls)))
            for place, one in enumerate(calls):
                self.assertEqual(told[place], model.ask(one), (seed, place, one))

    def compared(self, seeds, names):
        for seed in seeds:
            draw = Draw(seed)
            draw.names = names.split()
            calls, found = draw.line(Model())
            told = split(answers(join(calls)))
            self.assertEqual(len(told), len(found))
            for place, one in enumerate(calls):
                self.assertEqual(told[place], found[place], (seed, place, one))

    def test_lines_of_the_store(self):
        self.compared(range(60), "room limits share would why promise drop bind fulfil cancel tick items item used "
                                 "arrive arrive arrive arrive arrive arrive arrive arrive bind")

    def test_lines_of_all_calls(self):
        self.compared(range(100, 160), " ".join(CALL_NAMES[:29]) + " arrive arrive arrive arrive arrive arrive bind "
                                       "cheapest greatest goes kept online lasts")
