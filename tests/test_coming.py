"""Calls 17, 18, 19 and 28: kept, order, greedy, ends."""

import random
from itertools import permutations

from tests.lines import LineCase, call, last, row, run, thing

EXAMPLE = [thing(1, 6, 4, 9, 0, 1), thing(2, 5, 3, 9, 0, 1), thing(3, 5, 5, 9, 0, 1)]
TEN = [call("room", 10)]


class Kept(LineCase):
    def kept(self, setup, things, numbers):
        self.told([len(numbers)] + numbers, *setup, call("kept", row(*things)))

    def test_all_fit(self):
        self.kept([], [thing(1, 5, 2), thing(2, 5, 8), thing(3, 5, 5)], [2, 3, 1])
        self.kept([], [thing(k, 1, 0, 9) for k in range(20)], list(range(20)))
        self.kept([], [thing(5, 1, 0, 3), thing(6, 1, 0, 4), thing(7, 1, 0, 4), thing(8, 1, 1, 1)], [8, 6, 7, 5])

    def test_the_example(self):
        self.kept(TEN, EXAMPLE, [3])
        self.kept(TEN, [EXAMPLE[0], EXAMPLE[2], EXAMPLE[1]], [3, 2])

    def test_something_is_not_taken(self):
        self.kept([], [thing(1, 15, 5), thing(2, 6, 4), thing(3, 5, 3)], [1, 3])
        self.kept([], [thing(1, 21, 9), thing(2, 20, 0)], [2])

    def test_something_goes_and_something_comes_back(self):
        self.kept(TEN, [thing(1, 1, 1), thing(2, 8, 2), thing(3, 5, 3)], [3, 1])
        self.kept(TEN, [thing(1, 5, 1), thing(2, 5, 2), thing(3, 10, 3), thing(4, 1, 0)], [3])

    def test_ends_order_but_do_not_pass(self):
        self.kept(TEN, [thing(1, 10, 1, 1), thing(2, 10, 1, 2), thing(3, 10, 1, 3)], [3])
        self.kept(TEN, [thing(2, 10, 1, 2), thing(1, 10, 1, 2)], [1])

    def test_no_thing_of_a_list_is_bound(self):
        self.kept([call("arrive", *thing(1, 20, 1)), call("bind", 1, 1)], [thing(1, 20, 1), thing(2, 20, 2)], [2])

    def test_as_arrivals_at_an_empty_store(self):
        draw = random.Random(17)
        for turn in range(60):
            bounds = [call("room", draw.randint(5, 40)), call("share", draw.randint(5, 40)),
                      call("limits", [draw.randint(5, 40) for rank in range(10)])]
            things = [thing(n, draw.randint(1, 12), draw.randint(0, 9), draw.randint(1, 5), draw.randint(0, 2), n)
                      for n in draw.sample(range(1000), 20)]
            come = [call("arrive", *one) for one in things]
            self.told(last(*bounds, *come, call("items")), *bounds, call("kept", row(*things)))


class Greedy(LineCase):
    def greedy(self, setup, things, numbers):
        self.told([len(numbers)] + numbers, *setup, call("greedy", row(*things)))
        self.told([len(numbers)] + numbers, *setup, call("greedy", row(*reversed(things))))

    def test_strongest_first(self):
        self.greedy(TEN, EXAMPLE, [3, 2])
        self.greedy(TEN, [thing(1, 4, 1), thing(2, 4, 2), thing(3, 4, 3)], [3, 2])

    def test_what_does_not_fit_is_passed_over(self):
        self.greedy(TEN, [thing(1, 6, 5), thing(2, 5, 4), thing(3, 4, 3), thing(4, 1, 2)], [1, 3])
        self.greedy(TEN, [thing(1, 11, 5), thing(2, 10, 4)], [2])
        self.greedy(TEN, [thing(1, 11, 5), thing(2, 12, 4)], [])

    def test_rank_then_end_then_number(self):
        self.greedy(TEN, [thing(1, 10, 4, 9), thing(2, 10, 4, 10), thing(3, 10, 3, 11)], [2])
        self.greedy(TEN, [thing(7, 10, 4, 9), thing(6, 10, 4, 9), thing(8, 10, 4, 9)], [6])

    def test_worth_does_not_count(self):
        self.greedy(TEN, [thing(1, 10, 1, 9, 0, 1000), thing(2, 1, 2, 9, 0, 0)], [2])

    def test_limits_and_share(self):
        limits = [call("room", 50), call("limits", [5, 200, 9] + [200] * 7)]
        self.greedy(limits, [thing(1, 9, 2), thing(2, 1, 1), thing(3, 40, 3)], [3, 1])
        self.greedy(limits, [thing(1, 3, 2), thing(2, 5, 1), thing(3, 2, 0), thing(4, 1, 0)], [1, 2, 4])
        self.greedy([call("share", 6)], [thing(1, 5, 3, 9, 1), thing(2, 2, 2, 9, 1), thing(3, 5, 1, 9, 2)], [1, 3])

    def test_twenty(self):
        self.greedy([], [thing(k, 2, k % 10, 9) for k in range(20)], [9, 19, 8, 18, 7, 17, 6, 16, 5, 15])


class OrderAndEnds(LineCase):
    def compared(self, setup, things):
        """Both are answered as kept tells of every order; what order answers."""
        orders = [list(order) for order in permutations(things)]
        kept = run(*setup, *[call("kept", row(*order)) for order in orders])[len(setup):]
        told = [1]
        for place in reversed(range(len(orders))):
            if kept[place] != kept[0]:
                told = [0, len(things)] + [one[0] for one in orders[place]] + kept[place]
        worth = {one[0]: one[5] for one in things}
        ends = []
        for end in kept:
            if end not in ends:
                ends.append(end)
        answer = [len(ends)] + [n for end in ends for n in [sum(worth[k] for k in end[1:])] + end]
        self.told(told, *setup, call("order", row(*things)))
        self.told(answer, *setup, call("ends", row(*things)))
        return told, ends

    def test_the_example(self):
        self.told([0, 3, 1, 3, 2, 2, 3, 2], *TEN, call("order", row(*EXAMPLE)))
        self.told([2, 1, 1, 3, 2, 2, 3, 2], *TEN, call("ends", row(*EXAMPLE)))
        self.compared(TEN, EXAMPLE)

    def test_from_every_order_of_the_example(self):
        firsts = {(1, 2, 3): [1, 3, 2], (1, 3, 2): [1, 2, 3], (2, 1, 3): [2, 3, 1], (2, 3, 1): [2, 1, 3],
                  (3, 1, 2): None, (3, 2, 1): None}
        for order in permutations(EXAMPLE):
            told, ends = self.compared(TEN, list(order))
            first = tuple(one[0] for one in order)
            self.assertEqual(len(ends), 2)
            if firsts[first]:
                self.assertEqual(told[2:5], firsts[first])

    def test_none_and_one(self):
        self.told([1], call("order", []))
        self.told([1, 0, 0], call("ends", []))
        self.told([1], call("order", row(thing(1, 5, worth=7))))
        self.told([1, 7, 1, 1], call("ends", row(thing(1, 5, worth=7))))
        self.told([1], call("order", row(thing(1, 21, worth=7))))
        self.told([1, 0, 0], call("ends", row(thing(1, 21, worth=7))))

    def test_two(self):
        for sizes in ((6, 6), (1, 10), (10, 1), (11, 1), (11, 12), (5, 5)):
            for ranks in ((1, 2), (2, 1), (3, 3)):
                things = [thing(k + 1, sizes[k], ranks[k], worth=k + 1) for k in (0, 1)]
                self.assertEqual(self.compared(TEN, things)[0], [1])

    def test_things_of_one_size_end_alike(self):
        for count in range(6):
            for size in (1, 3, 5, 11):
                things = [thing(9 - k, size, k * 7 % 3, 5 + k % 2, 0, k) for k in range(count)]
                told, ends = self.compared(TEN, things)
                self.assertEqual((told, len(ends)), ([1], 1))

    def test_where_all_fit(self):
        things = [thing(k, k, k, worth=100 * k) for k in (5, 4, 3, 2, 1)]
        self.assertEqual(self.compared([], things)[0], [1])
        self.told([1, 1500, 5, 5, 4, 3, 2, 1], call("ends", row(*things)))

    def test_unlike_ends_of_one_worth(self):
        things = [thing(1, 6, 4, 9, 0, 0), thing(2, 5, 3, 9, 0, 0), thing(3, 5, 5, 9, 0, 0)]
        self.told([2, 0, 1, 3, 0, 2, 3, 2], *TEN, call("ends", row(*things)))

    def test_the_first_other_order_is_told_though_several_end_otherwise(self):
        things = [thing(7, 3, 3, 9, 0, 1), thing(4, 6, 4, 9, 0, 2), thing(2, 5, 3, 9, 0, 4), thing(9, 5, 5, 9, 0, 8)]
        told, ends = self.compared(TEN, things)
        self.assertEqual(told[0], 0)
        self.assertGreater(len(ends), 1)

    def test_many_unlike_ends(self):
        most = 0
        draw = random.Random(28)
        for turn in range(150):
            count = draw.choice((2, 3, 3, 4, 4, 4))
            room = draw.randint(8, 20)
            things = [thing(n, draw.randint(1, room // 2 + 2), draw.randint(0, 9), draw.randint(1, 3),
                            draw.randint(0, 2), draw.randint(0, 9)) for n in draw.sample(range(1000), count)]
            most = max(most, len(self.compared([call("room", room)], things)[1]))
        self.assertGreaterEqual(most, 3)

    def test_five(self):
        things = [thing(1, 6, 6, 9, 2, 1), thing(2, 1, 0, 9, 2, 2), thing(3, 3, 9, 9, 0, 4), thing(4, 5, 2, 9, 0, 8),
                  thing(5, 3, 4, 9, 1, 16)]
        self.compared([call("room", 8)], things)
        self.told([0, 5, 1, 2, 3, 5, 4, 3, 3, 5, 2], call("room", 8), call("order", row(*things)))
        self.told([5, 20, 2, 3, 5, 22, 3, 3, 5, 2, 6, 2, 3, 2, 12, 2, 3, 4, 4, 1, 3],
                  call("room", 8), call("ends", row(*things)))

    def test_five_drawn(self):
        most = 0
        draw = random.Random(18)
        for turn in range(40):
            room = draw.randint(8, 20)
            things = [thing(n, draw.randint(1, room // 2 + 2), draw.randint(0, 9), draw.randint(1, 3),
                            draw.randint(0, 2), draw.randint(0, 9)) for n in draw.sample(range(1000), 5)]
            bounds = [call("room", room), call("share", draw.randint(room // 2, room))]
            most = max(most, len(self.compared(bounds, things)[1]))
        self.assertGreaterEqual(most, 3)
