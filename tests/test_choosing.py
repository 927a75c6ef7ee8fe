"""Calls 20, 22 and 27: best, known, cheapest."""

import random

from tests.lines import FULL, THING_RANGES, LineCase, call, comer, last, row, run, thing

TEN = [call("room", 10)]
# Two senders whose things don't fit together, and two sizes that don't: 1 and 4 fit, 2 and 3 fit.
CROSSED = [thing(1, 1, 0, 100, 0, 1), thing(2, 4, 0, 100, 0, 2), thing(3, 1, 0, 100, 1, 1), thing(4, 4, 0, 100, 1, 2)]
CROSSED_BOUNDS = [call("room", 5), call("share", 4)]


class Best(LineCase):
    def best(self, answer, setup, things):
        """So answers best, and known too, if all come at one moment."""
        self.told(answer, *setup, call("best", row(*things)))
        for moment in (0, 3):
            self.told(answer, *setup, call("known", row(*[(moment,) + one for one in things])))

    def test_most_worth(self):
        self.best([7, 1, 1], TEN, [thing(1, 10, 0, 9, 0, 7), thing(2, 5, 9, 9, 0, 3), thing(3, 5, 9, 9, 0, 3)])
        self.best([8, 2, 2, 3], TEN, [thing(1, 10, 9, 9, 0, 7), thing(2, 5, 0, 9, 0, 4), thing(3, 5, 0, 9, 0, 4)])
        self.best([1000, 1, 1], TEN, [thing(1, 10, 0, 9, 0, 1000), thing(2, 1, 9, 9, 0, 999)])

    def test_told_in_the_order_told(self):
        things = [thing(5, 1, 0, 9, 0, 1), thing(9, 1, 9, 9, 0, 2), thing(2, 1, 5, 9, 0, 3)]
        self.best([6, 3, 5, 9, 2], TEN, things)
        self.best([6, 3, 2, 9, 5], TEN, things[::-1])

    def test_none_fits(self):
        self.best([0, 0], TEN, [thing(1, 11, 0, 9, 0, 1000), thing(2, 12, 0, 9, 0, 1000)])
        self.best([0, 0], [call("room", 0)], [thing(1, 1, 0, 9, 0, 1000)])
        self.best([0, 0], TEN, [])

    def test_of_one_worth_the_fewest(self):
        self.best([6, 1, 1], TEN, [thing(1, 10, 0, 9, 0, 6), thing(2, 5, 0, 9, 0, 3), thing(3, 5, 0, 9, 0, 3)])
        self.best([6, 1, 3], TEN, [thing(2, 5, 0, 9, 0, 3), thing(4, 5, 0, 9, 0, 3), thing(3, 10, 0, 9, 0, 6)])
        self.best([6, 2, 1, 2], TEN, [thing(1, 8, 0, 9, 0, 5), thing(2, 2, 0, 9, 0, 1), thing(3, 4, 0, 9, 0, 2),
                                      thing(4, 3, 0, 9, 0, 2), thing(5, 3, 0, 9, 0, 2)])

    def test_things_of_no_worth_are_left(self):
        self.best([0, 0], TEN, [thing(1, 1), thing(2, 1), thing(3, 1)])
        self.best([1, 1, 2], TEN, [thing(1, 1), thing(2, 1, worth=1), thing(3, 1)])

    def test_then_the_one_with_the_last_unlike_thing(self):
        three = [thing(1, 5, 0, 9, 0, 3), thing(2, 5, 0, 9, 0, 3), thing(3, 5, 0, 9, 0, 3)]
        self.best([6, 2, 2, 3], TEN, three)
        self.best([6, 2, 2, 1], TEN, three[::-1])
        self.best([3, 1, 3], [call("room", 9)], three)
        self.best([3, 1, 1], [call("room", 9)], three[::-1])
        self.best([3, 2, 1, 4], CROSSED_BOUNDS, CROSSED)
        self.best([3, 2, 2, 3], CROSSED_BOUNDS, [CROSSED[k] for k in (0, 1, 3, 2)])
        self.best([3, 2, 3, 2], CROSSED_BOUNDS, [CROSSED[k] for k in (3, 2, 0, 1)])

    def test_rank_end_and_number_do_not_decide(self):
        self.best([5, 1, 900], TEN, [thing(1, 10, 9, 99, 0, 5), thing(900, 10, 0, 9, 0, 5)])
        self.best([5, 1, 1], TEN, [thing(900, 10, 0, 9, 0, 5), thing(1, 10, 9, 99, 0, 5)])

    def test_limits_and_share(self):
        things = [thing(1, 5, 2, 9, 1, 4), thing(2, 5, 3, 9, 1, 4), thing(3, 5, 4, 9, 2, 3)]
        self.best([11, 3, 1, 2, 3], [], things)
        self.best([7, 2, 2, 3], [call("share", 9)], things)
        self.best([7, 2, 2, 3], [call("limits", [200, 200, 4] + [200] * 7)], things)
        self.best([7, 2, 2, 3], [call("limits", [200, 200, 200, 9] + [200] * 6)], things)
        self.best([8, 2, 1, 2], [call("limits", [200] * 9 + [14])], things)

    def test_ten_things(self):
        self.best([10000, 10] + list(range(10)), [], [thing(k, 2, k, 9, k % 8, 1000) for k in range(10)])
        self.best([9, 9] + list(range(1, 10)), [call("room", 9)], [thing(k, 1, k, 9, 0, 1) for k in range(10)])
        self.best([5, 5, 5, 6, 7, 8, 9], [], [thing(k, 4, 9 - k, 9, k % 8, 1) for k in range(10)])
        self.best([45, 3, 7, 8, 9], [call("room", 12)], [thing(k, 4, 9 - k, 9, k % 8, 8 + k // 2 if k < 7 else 15)
                                                       for k in range(10)])


class Known(LineCase):
    def known(self, answer, setup, comers):
        self.told(answer, *setup, call("known", row(*comers)))

    def test_one_after_the_other(self):
        self.known([5, 2, 1, 2], TEN, [comer(0, 1, 10, 0, 5, 0, 2), comer(5, 2, 10, 0, 9, 0, 3)])
        self.known([3, 1, 2], TEN, [comer(0, 1, 10, 0, 6, 0, 2), comer(5, 2, 10, 0, 9, 0, 3)])
        self.known([5, 2, 2, 1], TEN, [comer(5, 2, 10, 0, 9, 0, 3), comer(0, 1, 10, 0, 5, 0, 2)])
        self.known([5, 2, 1, 2], TEN, [comer(0, 1, 10, 0, 5, 0, 2), comer(99999, 2, 10, 0, 100000, 0, 3)])

    def test_one_long_one_or_several_short_ones(self):
        short = [comer(k, k + 1, 10, 9, k + 1, 0, 2) for k in range(5)]
        self.known([10, 5, 1, 2, 3, 4, 5], TEN, short + [comer(0, 9, 1, 0, 5, 0, 9)])
        self.known([11, 1, 9], TEN, short + [comer(0, 9, 1, 0, 5, 0, 11)])
        self.known([10, 1, 9], TEN, short + [comer(0, 9, 1, 0, 5, 0, 10)])
        self.known([13, 3, 1, 5, 9], TEN, short + [comer(1, 9, 1, 0, 4, 0, 9)])

    def test_at_some_moments_several(self):
        comers = [comer(0, 1, 4, 0, 10, 0, 5), comer(2, 2, 4, 0, 8, 0, 5), comer(4, 3, 4, 0, 6, 0, 4)]
        self.known([10, 2, 1, 2], TEN, comers)
        self.known([14, 3, 1, 2, 3], [call("room", 12)], comers)
        self.known([14, 3, 1, 2, 3], TEN, comers[:2] + [comer(8, 3, 4, 0, 9, 0, 4)])
        self.known([10, 2, 1, 2], TEN, comers[:2] + [comer(7, 3, 4, 0, 9, 0, 4)])

    def test_not_what_the_store_would_do(self):
        comers = [comer(0, 1, 10, 0, 9, 0, 100), comer(1, 2, 10, 9, 9, 0, 1)]
        self.known([100, 1, 1], TEN, comers)
        self.told([1, 1, 2], *TEN, call("online", row(*comers)))

    def test_ties(self):
        self.known([4, 1, 3], TEN, [comer(0, 1, 10, 0, 5, 0, 2), comer(5, 2, 10, 0, 9, 0, 2),
                                    comer(0, 3, 10, 0, 9, 0, 4)])
        # 1 and 3, 1 and 4, 2 and 4 can be kept; of these the last two have 4, and of them one has 2.
        chain = [comer(k, k + 1, 10, 0, k + 2, 0, 3) for k in range(4)]
        self.known([6, 2, 2, 4], TEN, chain)
        self.known([6, 2, 3, 1], TEN, chain[::-1])

    def test_things_of_no_worth_are_left(self):
        self.known([0, 0], TEN, [comer(0, 1, 1, 0, 5), comer(5, 2, 1, 0, 9)])
        self.known([1, 1, 2], TEN, [comer(0, 1, 1, 0, 5), comer(5, 2, 1, 0, 9, 0, 1)])

    def test_limits_and_share_at_each_moment(self):
        comers = [comer(0, 1, 4, 2, 5, 3, 1), comer(4, 2, 4, 1, 9, 3, 2)]
        self.known([3, 2, 1, 2], TEN, comers)
        self.known([2, 1, 2], [call("share", 7)], comers)
        self.known([2, 1, 2], [call("limits", [200, 200, 7] + [200] * 7)], comers)
        later = [comers[0], comer(5, 2, 4, 1, 9, 3, 2)]
        self.known([3, 2, 1, 2], [call("share", 7)], later)
        self.known([3, 2, 1, 2], [call("limits", [200, 200, 7] + [200] * 7)], later)

    def test_ten_things(self):
        self.known([10000, 10] + list(range(10)), [call("room", 50)],
                   [comer(k, k, 50, k, k + 1, k % 8, 1000) for k in range(10)])
        self.known([5, 5, 1, 3, 5, 7, 9], [call("room", 50)], [comer(k, k, 50, k, k + 2, k % 8, 1) for k in range(10)])


# Free, from the weakest on: 1 to 4, then bound 5.
HELD = [call("arrive", *thing(1, 4, 1, 50, 1, 6)), call("arrive", *thing(2, 5, 2, 50, 2, 3)),
        call("arrive", *thing(3, 6, 3, 50, 3, 4)), call("arrive", *thing(4, 3, 4, 50, 4, 9)),
        call("arrive", *thing(5, 2, 1, 40, 5, 0)), call("bind", 5, 1)]


def twelve(worths, size=1):
    """Twelve things from the weakest on, of these worths, which fill the room with two bound ones."""
    held = [call("room", 12 * size + 2)]
    held += [call("arrive", *thing(100 + k, size, 1, 10 + k, k % 8, worths[k])) for k in range(12)]
    return held + [call("promise", *thing(1)), call("promise", *thing(2))]


class Cheapest(LineCase):
    def cheapest(self, answer, setup, new):
        self.assertEqual(self.changes_nothing(setup, call("cheapest", *new)), answer)

    def test_nothing_need_go(self):
        self.cheapest([1, 0, 0], [], thing(9, 20))
        self.cheapest([1, 0, 0], [call("arrive", *thing(1, 10))], thing(9, 10, 9))
        self.cheapest([1, 0, 0], [call("arrive", *thing(1, 10, 9))], thing(9, 10, 0))
        self.cheapest([1, 0, 0], HELD[:4] + [call("room", 30)], thing(9, 12, 9))

    def test_things_of_no_worth_stay_if_they_need_not_go(self):
        self.cheapest([1, 0, 0], [call("arrive", *thing(1, 10)), call("arrive", *thing(2, 5))], thing(9, 5, 9))

    def test_nothing_helps(self):
        self.cheapest([0], [], thing(9, 21))
        self.cheapest([0], HELD, thing(9, 19, 9))
        self.cheapest([0], [call("arrive", *thing(1, 10, 5))], thing(9, 11, 4))
        self.cheapest([0], [call("promise", *thing(1, 10, 0))], thing(9, 11, 9))
        self.cheapest([0], [call("share", 3), call("arrive", *thing(1, 3, 0))], thing(9, 4, 9))

    def test_least_worth(self):
        self.cheapest([1, 3, 1, 2], HELD, thing(9, 1, 9))
        self.cheapest([1, 3, 1, 2], HELD, thing(9, 5, 9))
        self.cheapest([1, 4, 1, 3], HELD, thing(9, 6, 9))
        self.cheapest([1, 7, 2, 2, 3], HELD, thing(9, 7, 9))
        self.cheapest([1, 7, 2, 2, 3], HELD, thing(9, 11, 9))
        self.cheapest([1, 13, 3, 1, 2, 3], HELD, thing(9, 12, 9))
        self.cheapest([1, 22, 4, 1, 2, 3, 4], HELD, thing(9, 16, 9))
        self.cheapest([1, 22, 4, 1, 2, 3, 4], HELD, thing(9, 18, 9))

    def test_only_what_may_go(self):
        self.cheapest([1, 6, 1, 1], HELD, thing(9, 4, 2, 40))
        self.cheapest([0], HELD, thing(9, 5, 2, 40))
        self.cheapest([1, 3, 1, 2], HELD, thing(9, 5, 2, 60))
        self.cheapest([1, 6, 1, 1], HELD + [call("bind", 2, 1)], thing(9, 4, 3, 40))
        self.cheapest([0], HELD + [call("bind", 2, 1)], thing(9, 5, 3, 40))
        self.cheapest([1, 3, 1, 2], [call("arrive", *thing(7, 20, 3, 50, 0, 3)), call("drop", 7)] + HELD, thing(7, 1, 3))

    def test_not_what_would_go(self):
        self.told([1, 1, 1], *HELD, call("would", *thing(9, 4, 9)))
        self.cheapest([1, 3, 1, 2], HELD, thing(9, 4, 9))

    def test_of_one_worth_the_fewest(self):
        held = [call("arrive", *thing(1, 5, 1, 50, 0, 2)), call("arrive", *thing(2, 5, 2, 50, 0, 2)),
                call("arrive", *thing(3, 10, 3, 50, 0, 4))]
        self.cheapest([1, 4, 1, 3], held, thing(9, 10, 9))
        self.cheapest([1, 6, 2, 2, 3], held, thing(9, 15, 9))
        self.cheapest([1, 4, 2, 1, 2], held, thing(9, 10, 3, 40))

    def test_then_the_one_with_the_strongest_unlike_thing(self):
        alike = [call("arrive", *thing(k, 5, k, 50, 0, 2)) for k in (1, 2, 3, 4)]
        self.cheapest([1, 2, 1, 4], alike, thing(9, 5, 9))
        self.cheapest([1, 4, 2, 3, 4], alike, thing(9, 10, 9))
        self.cheapest([1, 6, 3, 2, 3, 4], alike, thing(9, 15, 9))
        self.cheapest([1, 2, 1, 3], alike, thing(9, 5, 4, 40))
        # 1 and 4 have as much room and worth as 2 and 3.
        pairs = [call("arrive", *thing(n, size, n, 50, 0, worth)) for n, size, worth in
                 ((1, 3, 1), (2, 4, 3), (3, 6, 4), (4, 7, 6))]
        self.cheapest([1, 7, 2, 1, 4], pairs, thing(9, 10, 9))

    def test_things_of_no_worth(self):
        held = [call("arrive", *thing(1, 5, 1, 50, 0, 0)), call("arrive", *thing(2, 5, 2, 50, 0, 0)),
                call("arrive", *thing(3, 10, 3, 50, 0, 1))]
        self.cheapest([1, 0, 1, 2], held, thing(9, 5, 9))
        self.cheapest([1, 0, 2, 1, 2], held, thing(9, 6, 9))
        self.cheapest([1, 1, 2, 2, 3], held, thing(9, 11, 9))

    def test_for_a_limit_or_the_share(self):
        held = [call("room", 100), call("share", 10), call("limits", [200, 200, 12] + [200] * 7),
                call("arrive", *thing(1, 5, 1, 50, 1, 9)), call("arrive", *thing(2, 5, 2, 50, 2, 8)),
                call("arrive", *thing(3, 5, 5, 50, 2, 1)), call("arrive", *thing(4, 5, 6, 50, 1, 2))]
        self.cheapest([1, 8, 1, 2], held, thing(9, 4, 2, 90, 3))
        self.cheapest([1, 0, 0], held, thing(9, 4, 9, 90, 3))
        self.cheapest([1, 2, 1, 4], held, thing(9, 4, 9, 90, 1))
        self.cheapest([1, 1, 1, 3], held, thing(9, 4, 9, 90, 2))
        self.cheapest([1, 9, 1, 1], held, thing(9, 4, 2, 90, 1))

    def test_twelve_may_go(self):
        self.cheapest([1, 0, 12] + list(range(100, 112)), twelve([0] * 12), thing(9, 12, 9))
        self.cheapest([1, 0, 1, 111], twelve([0] * 12), thing(9, 1, 9))
        self.cheapest([1, 12, 12] + list(range(100, 112)), twelve([1] * 12), thing(9, 12, 9))
        self.cheapest([1, 6, 6] + list(range(106, 112)), twelve([1] * 12), thing(9, 6, 9))
        self.cheapest([1, 21, 6, 100, 101, 102, 103, 104, 105], twelve([k + 1 for k in range(12)]), thing(9, 6, 9))
        self.cheapest([1, 3, 3, 102, 107, 111], twelve([9, 9, 1, 9, 9, 9, 9, 1, 9, 9, 9, 1], 3), thing(9, 9, 9))
        self.cheapest([0], twelve([1] * 12), thing(9, 13, 9))

    def test_thirteen_may_go(self):
        held = twelve([1] * 12) + [call("room", 50), call("arrive", *thing(200, 1, 5, 50))]
        for size in (1, 20, 50):
            self.refused(-4, held, call("cheapest", *thing(9, size, 9)))
        self.cheapest([1, 0, 0], held, thing(900, 20, 5, 50))
        self.refused(-4, held, call("cheapest", *thing(9, 20, 5, 50)))
        self.refused(-4, held, call("cheapest", *thing(9, 20, 5, 51)))
        self.refused(-4, held, call("cheapest", *thing(9, 20, 5, 51, 7, 1000)))
        self.cheapest([1, 0, 0], held + [call("bind", 200, 1)], thing(9, 20, 9))
        self.cheapest([1, 0, 0], held + [call("drop", 100)], thing(9, 20, 9))

    def test_new(self):
        held = [call("arrive", *thing(4, 3)), call("promise", *thing(5, 3))]
        self.refused(-6, held, call("cheapest", *thing(4, 3)))
        self.refused(-6, held, call("cheapest", *thing(5, 50, 9, 9)))
        self.refused(-7, [call("tick", 9)], call("cheapest", *thing(4, 3, 0, 9)))
        self.cheapest([1, 0, 0], [call("tick", 9)], thing(4, 3, 0, 10))
        self.refused(-8, FULL, call("cheapest", *thing(500, 1, 0, 9)))
        self.refused(-8, FULL, call("cheapest", *thing(500, 50, 9, 100)))

    def test_order_of_refusals(self):
        later = FULL + [call("tick", 5)]
        self.refused(-1, later, call("cheapest", *thing(3, 51, 9, 5)))
        self.refused(-1, later, call("cheapest", *thing(3, 1, 9, 5, 0, 1001)))
        self.refused(-6, later, call("cheapest", *thing(3, 1, 9, 5)))
        self.refused(-7, later, call("cheapest", *thing(500, 1, 9, 5)))
        self.refused(-8, later, call("cheapest", *thing(500, 1, 9, 6)))
        fewer = later + [call("drop", 3)]
        self.refused(-6, fewer, call("cheapest", *thing(4, 1, 9, 5)))
        self.refused(-7, fewer, call("cheapest", *thing(500, 1, 9, 5)))
        self.refused(-4, fewer, call("cheapest", *thing(500, 1, 9, 6)))
        self.refused(-1, fewer, call("cheapest", *thing(500, 0, 9, 6)))

    def test_ranges(self):
        for setup in ([], HELD):
            self.ranges_held(setup, "cheapest", THING_RANGES, thing(500, 5, 5, 500, 5, 500))

    def test_without_it_the_thing_comes_at_once(self):
        draw = random.Random(27)
        for turn in range(40):
            held = [call("arrive", *thing(k, draw.randint(1, 6), draw.randint(0, 5), 9, k % 3, draw.randint(0, 5)))
                    for k in range(12)]
            new = thing(99, draw.randint(1, 20), draw.randint(3, 9))
            told = last(*held, call("cheapest", *new))
            self.assertEqual(told[0], last(*held, call("would", *new))[0])
            if told[0] == 1:
                going = [call("drop", number) for number in told[3:]]
                self.assertEqual(run(*held, *going, call("arrive", *new))[-1], [1, 0])
