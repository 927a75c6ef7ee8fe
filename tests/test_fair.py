"""Call 25: fair."""

import random
from fractions import Fraction
from math import gcd

from tests.lines import GREATEST, LEAST, LineCase, call, last, thing

HELD = [call("arrive", *thing(1, 7, 3, 50, 1)), call("bind", 1, 1), call("tick", 9)]


class Fair(LineCase):
    def fair(self, shares, room, asked):
        numbers = [n for share in shares for n in (share if isinstance(share, tuple) else (share, 1))]
        self.told([len(asked)] + numbers, call("room", room), call("fair", asked))
        if room >= 7:
            self.told([len(asked)] + numbers, *HELD, call("room", room), call("fair", asked))

    def test_the_example(self):
        self.fair([1, 5, 4], 10, [1, 9, 4])

    def test_one(self):
        self.fair([10], 10, [10])
        self.fair([10], 10, [11])
        self.fair([10], 10, [1000])
        self.fair([9], 10, [9])
        self.fair([0], 10, [0])
        self.fair([200], 200, [1000])

    def test_a_room_that_divides(self):
        self.fair([5, 5], 10, [9, 9])
        self.fair([2, 2, 2, 2, 2], 10, [9, 8, 7, 6, 5])
        self.fair([25] * 8, 200, [1000] * 8)

    def test_a_room_that_does_not_divide(self):
        self.fair([(10, 3)] * 3, 10, [4, 5, 6])
        self.fair([(5, 2)] * 4, 10, [9] * 4)
        self.fair([(5, 4)] * 8, 10, [2] * 8)
        self.fair([(200, 7)] * 7, 200, [1000] * 7)
        self.fair([(1, 8)] * 8, 1, [1] * 8)
        self.fair([(3, 4)] * 8, 6, [1000] * 8)
        self.fair([1, (9, 2), (9, 2)], 10, [1, 9, 7])

    def test_who_asks_for_no_more_than_the_share_gets_it(self):
        self.fair([3, (7, 2), (7, 2)], 10, [3, 4, 4])
        self.fair([(10, 3)] * 3, 10, [4, 4, 4])
        self.fair([5, 5], 10, [5, 9])
        self.fair([5, 5], 10, [9, 5])
        self.fair([6, 4], 10, [9, 4])
        self.fair([1, 2, 3, 4], 10, [1, 2, 3, 9])
        self.fair([(7, 2), 1, 2, (7, 2)], 10, [9, 1, 2, 4])

    def test_a_room_of_0(self):
        self.fair([0], 0, [5])
        self.fair([0, 0, 0], 0, [5, 0, 1000])
        self.fair([0] * 8, 0, [1000] * 8)
        self.fair([0, 0], 0, [0, 0])

    def test_someone_asks_for_0(self):
        self.fair([0, 5, 5], 10, [0, 9, 9])
        self.fair([5, 0, 5], 10, [9, 0, 9])
        self.fair([0, 0, 10], 10, [0, 0, 1000])
        self.fair([0] * 8, 200, [0] * 8)

    def test_all_asked_is_less_than_the_room(self):
        self.fair([1, 2, 3], 10, [1, 2, 3])
        self.fair([1, 2, 3, 3], 10, [1, 2, 3, 3])
        self.fair([7, 1, 1], 10, [7, 1, 1])
        self.fair([3, 2, 5], 10, [3, 2, 5])
        self.fair([100, 99], 200, [100, 99])

    def test_as_the_words_say(self):
        draw = random.Random(25)
        for turn in range(300):
            room = draw.choice((0, 1, 7, 20, 199, 200))
            asked = [draw.randint(0, draw.choice((1, 9, 60, 1000))) for k in range(draw.randint(1, 8))]
            told = last(call("room", room), call("fair", asked))
            self.assertEqual((told[0], len(told)), (len(asked), 2 * len(asked) + 1))
            pairs = list(zip(told[1::2], told[2::2]))
            for above, below in pairs:
                self.assertTrue(above >= 0 and below >= 1 and gcd(above, below) == 1, (above, below))
            got = [Fraction(above, below) for above, below in pairs]
            self.assertEqual(sum(got), min(room, sum(asked)))
            for one, ask in zip(got, asked):
                self.assertLessEqual(one, ask)
                self.assertTrue(one == ask or one == max(got), (room, asked, told))

    def test_only_the_room_counts(self):
        for setup in ([call("limits", [0] * 10)], [call("share", 0)], HELD):
            self.told([2, 10, 1, 10, 1], *setup, call("fair", [50, 60]))

    def test_changes_nothing(self):
        self.assertEqual(self.changes_nothing(HELD, call("fair", [50, 60, 1])), [3, 19, 2, 19, 2, 1, 1])

    def test_every_length(self):
        for length in range(121):
            for value in (0, 1, 1000):
                told = last(call("fair", [value] * length))
                self.assertEqual(told != [-1], 1 <= length <= 8, length)
        for length in (0, 9, 10, 120):
            self.refused(-1, HELD, call("fair", [5] * length))

    def test_ranges_at_every_place(self):
        for length in range(1, 9):
            for place in range(length):
                for value, right in ((0, True), (1000, True), (-1, False), (1001, False), (LEAST, False),
                                     (GREATEST, False)):
                    asked = [5] * length
                    asked[place] = value
                    self.assertEqual(last(call("fair", asked)) != [-1], right, asked)
        self.refused(-1, HELD, call("fair", [5, 1001]))
        self.refused(-1, HELD, call("fair", [-1, 5]))
