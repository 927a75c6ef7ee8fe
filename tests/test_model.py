"""Many lines, drawn from written seeds, answered as the model answers them."""

import random
import unittest

from rankedroom.store import answers
from tests.lines import GREATEST, LEAST, call, join, split
from tests.model import Model

WRONG = (LEAST, -2, -1, 0, 51, 201, 1000, 1001, 100001, GREATEST)


class Draw:
    """Draws calls; the sizes and spans are drawn once a line, so that lines are unlike."""

    def __init__(self, seed):
        self.random = random.Random(seed)
        self.numbers = self.random.choice((6, 20, 60))
        self.size = self.random.choice((1, 3, 8, 50))
        self.ranks = self.random.choice((2, 4, 10))
        self.ends = self.random.choice((5, 60, 2000))
        self.senders = self.random.choice((1, 3, 8))
        self.ticks = self.random.choice((1, 3, 20))
        self.bound = self.random.choice((12, 40, 200))
        self.now = 0

    def up_to(self, most):
        return self.random.randint(0, most)

    def new(self):
        return [self.up_to(self.numbers), self.random.randint(1, self.size), self.up_to(self.ranks - 1),
                min(100000, max(1, self.now + self.up_to(self.ends))), self.up_to(self.senders - 1), self.up_to(1000)]

    def given(self, name):
        if name in ("arrive", "would", "why", "promise"):
            return self.new()
        if name in ("room", "share"):
            return [self.random.randint(self.bound // 2, self.bound)]
        if name == "limits":
            limits = [self.random.randint(self.bound // 3, self.bound) for rank in range(10)]
            return [limits if self.up_to(1) else sorted(limits)]
        if name in ("drop", "fulfil", "cancel", "item"):
            return [self.up_to(self.numbers)]
        if name == "bind":
            return [self.up_to(self.numbers), self.up_to(1)]
        if name == "tick":
            return [self.up_to(self.ticks)]
        return []

    def one(self):
        name = self.random.choice("room limits share would why promise drop bind fulfil cancel tick items item used "
                                  "arrive arrive arrive arrive arrive arrive arrive arrive bind".split())
        given = self.given(name)
        if given and self.up_to(40) == 0:
            row = given[0] if name == "limits" else given
            row[self.up_to(len(row) - 1)] = self.random.choice(WRONG)
        return call(name, *given)

    def line(self, model):
        calls, found = [], []
        while len(calls) < 400:
            one = self.one()
            calls.append(one)
            found.append(model.ask(one))
            self.now = model.now
        return calls, found


class AsTheModel(unittest.TestCase):
    def test_drawn_lines(self):
        for seed in range(60):
            calls, found = Draw(seed).line(Model())
            told = split(answers(join(calls)))
            self.assertEqual(len(told), len(found))
            for place, one in enumerate(calls):
                self.assertEqual(told[place], found[place], (seed, place, one))
