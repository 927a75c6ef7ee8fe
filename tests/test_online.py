"""Call 21: online."""

from tests.lines import LineCase, call, comer, last, row, thing

TEN = [call("room", 10)]


class Online(LineCase):
    def online(self, answer, setup, *comers):
        self.told(answer, *setup, call("online", row(*comers)))

    def test_all_fit(self):
        self.online([6, 3, 3, 2, 1], TEN, comer(0, 1, 3, 1, 9, 0, 1), comer(1, 2, 3, 2, 9, 0, 2),
                    comer(2, 3, 3, 3, 9, 0, 3))
        self.online([7, 1, 1], TEN, comer(0, 1, 10, 0, 1, 0, 7))
        self.online([0, 1, 1], TEN, comer(99999, 1, 10, 0, 100000, 0, 0))

    def test_none_is_taken(self):
        self.online([0, 0], TEN, comer(0, 1, 11, 9, 9, 0, 7))
        self.online([0, 0], [call("room", 0)], comer(0, 1, 1, 9, 9, 0, 7), comer(4, 2, 1, 9, 9, 0, 7))

    def test_by_moments_not_by_the_order_told(self):
        early, late = comer(1, 1, 10, 5, 50, 0, 1), comer(2, 2, 10, 7, 40, 0, 2)
        self.online([2, 1, 2], TEN, early, late)
        self.online([2, 1, 2], TEN, late, early)
        # The order told would let 3 come ahead of 2, and 2 would be kept.
        comers = [comer(5, 3, 5, 5, 90, 0, 1), comer(0, 1, 6, 4, 90, 0, 1), comer(2, 2, 5, 3, 90, 0, 1)]
        self.online([1, 1, 3], TEN, *comers)
        self.told([2, 3, 2], *TEN, call("kept", row(*[one[1:] for one in comers])))

    def test_several_at_one_moment_in_the_order_told(self):
        comers = [comer(3, 1, 6, 4, 9, 0, 1), comer(3, 2, 5, 3, 9, 0, 1), comer(3, 3, 5, 5, 9, 0, 1)]
        self.online([1, 1, 3], TEN, *comers)
        self.online([2, 2, 3, 2], TEN, comers[0], comers[2], comers[1])
        self.online([2, 2, 3, 2], TEN, comers[2], comers[0], comers[1])
        # The same between others, told far from one another.
        before, after = comer(0, 8, 10, 0, 1, 0, 10), comer(9, 9, 10, 0, 99, 0, 20)
        self.online([31, 3, 8, 3, 9], TEN, after, comers[0], comers[1], before, comers[2])
        self.online([32, 4, 8, 3, 2, 9], TEN, comers[0], after, comers[2], before, comers[1])

    def test_what_goes_for_others_is_not_kept(self):
        self.online([5, 1, 2], TEN, comer(0, 1, 10, 1, 9, 0, 100), comer(1, 2, 10, 2, 9, 0, 5))
        self.online([100, 1, 1], TEN, comer(0, 1, 10, 2, 9, 0, 100), comer(1, 2, 10, 1, 9, 0, 5))
        self.online([6, 2, 3, 1], TEN, comer(0, 1, 1, 1, 9, 0, 1), comer(0, 2, 8, 2, 9, 0, 9),
                    comer(0, 3, 5, 3, 9, 0, 5))

    def test_one_that_ends_when_another_comes(self):
        self.online([3, 2, 1, 2], TEN, comer(0, 1, 10, 9, 5, 0, 1), comer(5, 2, 10, 0, 9, 0, 2))
        self.online([1, 1, 1], TEN, comer(0, 1, 10, 9, 6, 0, 1), comer(5, 2, 10, 0, 9, 0, 2))
        self.online([3, 2, 1, 2], TEN, comer(0, 1, 10, 9, 4, 0, 1), comer(5, 2, 10, 0, 9, 0, 2))

    def test_those_that_ended_by_when_they_were_let_go(self):
        self.online([7, 3, 1, 2, 3], TEN, comer(0, 1, 10, 1, 2, 0, 1), comer(2, 2, 10, 5, 4, 0, 2),
                    comer(4, 3, 10, 9, 5, 0, 4))
        self.online([7, 3, 1, 3, 2], TEN, comer(0, 1, 3, 1, 2, 0, 1), comer(0, 2, 3, 5, 4, 0, 2),
                    comer(2, 3, 3, 9, 9, 0, 4))
        self.online([15, 4, 1, 2, 4, 3], TEN, comer(0, 1, 3, 1, 2, 0, 1), comer(0, 2, 3, 5, 4, 0, 2),
                    comer(2, 3, 3, 9, 9, 0, 4), comer(4, 4, 3, 9, 90, 0, 8))

    def test_those_let_go_at_once_strongest_first(self):
        self.online([15, 4, 3, 2, 1, 4], TEN, comer(0, 1, 2, 1, 4, 0, 1), comer(0, 2, 2, 5, 3, 0, 2),
                    comer(0, 3, 2, 9, 2, 0, 4), comer(4, 4, 10, 0, 9, 0, 8))
        self.online([15, 4, 2, 1, 3, 4], TEN, comer(0, 3, 2, 5, 4, 0, 1), comer(0, 2, 2, 5, 5, 0, 2),
                    comer(0, 1, 2, 5, 4, 0, 4), comer(5, 4, 10, 0, 9, 0, 8))
        # At 3 the first is let go, at 4 the stronger second.
        self.online([7, 4, 1, 2, 4, 3], TEN, comer(0, 1, 2, 1, 3, 0, 1), comer(0, 2, 2, 5, 4, 0, 2),
                    comer(3, 3, 1, 0, 9, 0, 4), comer(4, 4, 1, 0, 90, 0, 0))

    def test_one_that_is_not_taken_lets_go_too(self):
        self.online([3, 2, 1, 2], TEN, comer(0, 1, 2, 1, 3, 0, 1), comer(0, 2, 2, 5, 4, 0, 2),
                    comer(3, 3, 11, 0, 9, 0, 4), comer(4, 4, 11, 0, 90, 0, 8))
        self.online([3, 2, 2, 1], TEN, comer(0, 1, 2, 1, 3, 0, 1), comer(0, 2, 2, 5, 4, 0, 2))
        self.online([3, 2, 2, 1], TEN, comer(0, 1, 2, 1, 3, 0, 1), comer(0, 2, 2, 5, 4, 0, 2),
                    comer(4, 4, 11, 0, 90, 0, 8))

    def test_what_is_in_the_store_comes_behind(self):
        self.online([7, 3, 1, 3, 2], TEN, comer(0, 1, 2, 0, 1, 0, 1), comer(1, 2, 2, 5, 9, 0, 2),
                    comer(2, 3, 2, 7, 3, 0, 4))
        self.online([7, 3, 1, 3, 2], TEN, comer(0, 1, 2, 9, 2, 0, 1), comer(0, 2, 2, 5, 9, 0, 2),
                    comer(2, 3, 2, 7, 9, 0, 4))

    def test_limits_and_share(self):
        comers = [comer(0, 1, 4, 2, 5, 3, 1), comer(4, 2, 4, 1, 9, 3, 2), comer(5, 3, 4, 1, 8, 3, 4)]
        self.online([7, 3, 1, 2, 3], [call("room", 12)], *comers)
        self.online([5, 2, 1, 3], [call("share", 7)], *comers)
        self.online([5, 2, 1, 3], [call("limits", [200, 200, 7] + [200] * 7)], *comers)
        self.online([7, 3, 1, 2, 3], [call("limits", [200, 200, 8] + [200] * 7)], *comers)

    def test_ten_things(self):
        self.online([55, 10] + list(range(10)), [call("room", 50)],
                    *[comer(k, k, 50, k, k + 1, k % 8, k + 1) for k in range(10)])
        self.online([10, 1, 9], [call("room", 50)], *[comer(k, k, 50, k, 90, k % 8, k + 1) for k in range(10)])
        self.online([1, 1, 0], [call("room", 50)], *[comer(k, k, 50, 9 - k, 90, k % 8, k + 1) for k in range(10)])

    def test_as_arrivals_and_ticks(self):
        """Without things let go, what is kept is what arrivals with ticks between leave in the store."""
        comers = [comer(4 * k % 7, 30 + k, 2 + k % 5, 3 * k % 8, 50 + k, k % 3, 1) for k in range(10)]
        calls, now = list(TEN), 0
        for one in sorted(comers, key=lambda one: one[0]):
            calls += [call("tick", one[0] - now), call("arrive", *one[1:])]
            now = one[0]
        told = last(*calls, call("items"))
        self.online([told[0]] + told, TEN, *comers)

    def test_a_thing_in_the_store_is_no_hindrance(self):
        self.online([3, 1, 1], TEN + [call("promise", *thing(1, 10, 9))], comer(0, 1, 10, 0, 9, 0, 3))
