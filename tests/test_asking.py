"""Calls 15, 16, 23, 24 and 26: greatest, goes, lasts, senders, sure."""

from tests.lines import FULL, LineCase, call, last, run, thing

GREATEST_RANGES = [(0, 9), (1, 100000), (0, 7)]
WIDE = [200] * 10
# 1 to 4 from the weakest on; 5 is bound and 6 is promised.
HELD = [call("room", 60), call("arrive", *thing(1, 3, 1, 50, 1)), call("arrive", *thing(2, 4, 2, 40, 2)),
        call("arrive", *thing(3, 5, 2, 60, 2)), call("arrive", *thing(4, 6, 7, 10, 3)),
        call("arrive", *thing(5, 7, 2, 50, 4)), call("bind", 5, 1), call("promise", *thing(6, 8, 0, 90, 5))]


class Greatest(LineCase):
    def greatest(self, answer, setup, rank, end, sender):
        """Answered so; and nothing is broken by that size, but by a greater one, where why does not refuse."""
        self.assertEqual(self.changes_nothing(setup, call("greatest", rank, end, sender)), [answer])
        for size in (1, answer, answer + 1):
            told = last(*setup, call("why", *thing(999, size, rank, end, sender)))
            if told[0] >= 0:
                self.assertEqual(told == [0], size <= answer, (setup, size))

    def test_every_size(self):
        for size in range(51):
            self.greatest(size, [call("room", size)], 3, 9, 2)
            self.greatest(size, [call("share", size), call("room", 200)], 0, 1, 7)
            self.greatest(size, [call("limits", WIDE[:9] + [size]), call("room", 200)], 9, 100000, 0)
        for room in (51, 52, 100, 200):
            self.greatest(50, [call("room", room)], 3, 9, 2)

    def test_the_example(self):
        self.greatest(5, [call("room", 10), call("arrive", 3, 5, 5, 9, 0, 1)], 2, 5, 1)

    def test_what_is_stronger_stays(self):
        held = [call("arrive", *thing(1, 6, 5, 50)), call("arrive", *thing(2, 7, 3, 50))]
        self.greatest(20, held, 6, 1, 0)
        self.greatest(20, held, 5, 51, 0)
        self.greatest(14, held, 5, 49, 0)
        self.greatest(14, held, 4, 100, 0)
        self.greatest(7, held, 3, 1, 0)
        self.greatest(7, held, 0, 100000, 0)

    def test_of_the_same_rank_and_end_its_number_is_1000(self):
        for number in (0, 500, 999):
            held = [call("arrive", *thing(number, 15, 4, 50))]
            self.told([5], *held, call("greatest", 4, 50, 0))
            self.told([20], *held, call("greatest", 4, 51, 0))
            self.told([5], *held, call("greatest", 4, 49, 0))
            self.told([20], *held, call("greatest", 5, 50, 0))

    def test_bound_things_stay(self):
        held = [call("arrive", *thing(1, 6, 0, 50)), call("arrive", *thing(2, 7, 0, 50))]
        self.greatest(20, held, 9, 9, 0)
        self.greatest(14, held + [call("bind", 1, 1)], 9, 9, 0)
        self.greatest(13, held + [call("bind", 2, 1)], 9, 9, 0)
        self.greatest(7, held + [call("bind", 1, 1), call("bind", 2, 1)], 9, 9, 0)
        self.greatest(20, held + [call("bind", 1, 1), call("bind", 1, 0)], 9, 9, 0)
        self.greatest(9, [call("promise", *thing(1, 11, 0, 50))], 9, 9, 0)
        self.greatest(20, [call("promise", *thing(1, 11, 0, 50)), call("fulfil", 1)], 9, 9, 0)
        self.greatest(0, [call("promise", *thing(1, 20, 0, 50))], 9, 9, 0)

    def test_a_limit_stops_it(self):
        for rank in range(10):
            bounds = [call("limits", WIDE[:rank] + [8] + WIDE[rank + 1:])]
            for own in range(10):
                self.greatest(8 if own <= rank else 20, bounds, own, 9, 0)
        bounds = [call("limits", [5, 9, 7] + WIDE[3:]), call("arrive", *thing(1, 3, 2, 50))]
        self.greatest(4, bounds, 1, 9, 0)
        self.greatest(7, bounds, 2, 60, 0)
        self.greatest(4, bounds, 2, 40, 0)
        self.greatest(20, bounds, 3, 1, 0)

    def test_a_limit_with_bound_things_below(self):
        bounds = [call("limits", WIDE[:5] + [9] + WIDE[6:]), call("arrive", *thing(1, 4, 0)), call("bind", 1, 1)]
        self.greatest(5, bounds, 5, 9, 0)
        self.greatest(16, bounds, 6, 9, 0)

    def test_the_share_stops_it(self):
        held = [call("share", 9), call("arrive", *thing(1, 6, 5, 50, 3))]
        self.greatest(3, held, 4, 9, 3)
        self.greatest(9, held, 4, 9, 2)
        self.greatest(9, held, 6, 9, 3)
        self.greatest(3, held + [call("bind", 1, 1)], 6, 9, 3)

    def test_the_least_of_several(self):
        held = [call("share", 9), call("limits", [200, 8] + WIDE[2:]), call("room", 7)]
        self.greatest(7, held, 1, 9, 0)
        self.greatest(8, held[:2], 1, 9, 0)
        self.greatest(9, held[:2], 2, 9, 0)

    def test_none(self):
        self.greatest(0, [call("arrive", *thing(1, 20, 5, 50))], 4, 9, 0)
        self.greatest(0, [call("room", 0)], 9, 9, 0)
        self.greatest(0, [call("share", 0)], 9, 9, 0)
        self.greatest(0, [call("limits", [0] * 10)], 9, 9, 0)

    def test_an_end_that_is_past(self):
        for now in (1, 9, 1000):
            for end in (1, now - 1, now):
                if end > 0:
                    self.greatest(0, [call("tick", now)], 9, end, 0)
            self.greatest(20, [call("tick", now)], 9, now + 1, 0)
        self.told([20], call("greatest", 9, 1, 0))
        self.told([0], *[call("tick", 1000)] * 100, call("greatest", 9, 100000, 0))

    def test_a_store_of_forty(self):
        self.told([50], *FULL, call("greatest", 9, 100, 0))
        self.told([50], *FULL, call("greatest", 0, 1, 0))
        self.told([10], *FULL, call("room", 50), call("greatest", 0, 1, 0))

    def test_ranges(self):
        for setup in ([], HELD):
            self.ranges_held(setup, "greatest", GREATEST_RANGES, [5, 500, 5])


class Goes(LineCase):
    def goes(self, numbers, setup, k):
        self.assertEqual(self.changes_nothing(setup, call("goes", k)), [len(numbers)] + numbers)

    def test_from_the_weakest_on(self):
        for k in range(201):
            numbers = [1, 2, 3, 4][:0 if k == 0 else 1 if k <= 3 else 2 if k <= 7 else 3 if k <= 12 else 4]
            self.told([len(numbers)] + numbers, *HELD, call("goes", k))

    def test_none_met_just_and_beyond_all(self):
        self.goes([], HELD, 0)
        self.goes([1], HELD, 3)
        self.goes([1, 2], HELD, 4)
        self.goes([1, 2, 3], HELD, 12)
        self.goes([1, 2, 3, 4], HELD, 18)
        self.goes([1, 2, 3, 4], HELD, 19)
        self.goes([1, 2, 3, 4], HELD, 200)

    def test_bound_things_are_left_out(self):
        self.goes([2, 3], HELD + [call("bind", 1, 1)], 5)
        self.goes([6, 1, 2, 5, 3, 4], HELD + [call("fulfil", 6), call("bind", 5, 0)], 200)
        self.goes([6], HELD + [call("fulfil", 6)], 8)
        self.goes([], [call("promise", *thing(1)), call("arrive", *thing(2)), call("bind", 2, 1)], 200)

    def test_empty_store(self):
        for k in (0, 1, 200):
            self.goes([], [], k)

    def test_ties_of_rank_and_end(self):
        held = [call("arrive", *thing(n, 1, 3, e)) for n, e in ((5, 9), (7, 9), (6, 9), (1, 8), (9, 10))]
        self.goes([1, 7, 6, 5, 9], held, 5)
        self.goes([1, 7], held, 2)

    def test_forty(self):
        order = sorted(range(40), key=lambda k: (k % 3, k))
        self.told([40] + order, *FULL, call("goes", 40))
        self.told([39] + order[:39], *FULL, call("goes", 39))

    def test_ranges(self):
        for setup in ([], HELD):
            self.ranges_held(setup, "goes", [(0, 200)], [5])


class Lasts(LineCase):
    def lasts(self, numbers, setup, e):
        self.assertEqual(self.changes_nothing(setup, call("lasts", e)), [len(numbers)] + numbers)

    def test_ends_so_late_or_earlier(self):
        for e, numbers in ((0, []), (9, []), (10, [4]), (11, [4]), (39, [4]), (40, [4, 2]), (50, [4, 5, 2, 1]),
                           (60, [4, 3, 5, 2, 1]), (89, [4, 3, 5, 2, 1]), (90, [4, 3, 5, 2, 1, 6]),
                           (100000, [4, 3, 5, 2, 1, 6])):
            self.lasts(numbers, HELD, e)

    def test_first_and_last_ends(self):
        held = [call("arrive", *thing(1, 1, 0, 1)), call("arrive", *thing(2, 1, 0, 100000))]
        self.lasts([], held, 0)
        self.lasts([1], held, 1)
        self.lasts([1], held, 99999)
        self.lasts([2, 1], held, 100000)
        self.lasts([2], held + [call("tick", 1)], 100000)

    def test_a_moment_that_is_past(self):
        self.lasts([], HELD + [call("tick", 15)], 15)
        self.lasts([], HELD + [call("tick", 15)], 3)
        self.lasts([2], HELD + [call("tick", 15)], 40)

    def test_empty_store(self):
        for e in (0, 1, 100000):
            self.lasts([], [], e)

    def test_ranges(self):
        for setup in ([], HELD):
            self.ranges_held(setup, "lasts", [(0, 100000)], [50])


class Senders(LineCase):
    def test_each(self):
        self.told([0] * 8, call("senders"))
        self.assertEqual(self.changes_nothing(HELD, call("senders")), [0, 3, 9, 6, 7, 8, 0, 0])
        for sender in range(8):
            held = [call("arrive", *thing(1, 9, 2, 9, sender)), call("promise", *thing(2, 4, 5, 9, sender))]
            self.told([13 if k == sender else 0 for k in range(8)], *held, call("senders"))

    def test_after_some_have_gone(self):
        self.told([0, 3, 9, 0, 7, 8, 0, 0], *HELD, call("drop", 4), call("senders"))
        self.told([0, 0, 5, 0, 0, 8, 0, 0], *HELD, call("tick", 50), call("senders"))

    def test_forty(self):
        held = [call("arrive", *thing(k, 1 + k % 8, sender=k % 8)) for k in range(40)]
        self.told([5 * k for k in range(1, 9)], call("room", 200), *held, call("senders"))


class Sure(LineCase):
    def sure(self, answer, setup, rank):
        self.assertEqual(self.changes_nothing(setup, call("sure", rank)), [answer])

    def test_the_room_less_the_limit_below(self):
        bounds = [call("room", 100), call("limits", [10, 25, 20, 99, 100, 101, 0, 200, 60, 1])]
        for rank, answer in enumerate((0, 90, 75, 80, 1, 0, 0, 100, 0, 40)):
            self.sure(answer, bounds, rank)

    def test_rank_0(self):
        self.sure(0, [call("room", 200), call("limits", [0] * 10)], 0)
        self.sure(200, [call("room", 200), call("limits", [0] * 10)], 1)
        self.sure(200, [call("room", 200), call("limits", [0] * 10)], 9)
        self.sure(0, [call("room", 200), call("limits", WIDE[:9] + [0])], 0)

    def test_a_limit_above_the_room(self):
        for rank in range(10):
            self.sure(0, [], rank)
            self.sure(0, [call("room", 200)], rank)
            self.sure(0, [call("room", 0)], rank)
        self.sure(0, [call("limits", [20] * 10)], 4)
        self.sure(1, [call("limits", [19] * 10)], 4)
        self.sure(0, [call("limits", [21] * 10)], 4)

    def test_the_store_does_not_count(self):
        bounds = [call("room", 60), call("limits", [50] * 10)]
        for rank in range(10):
            self.told(last(*bounds, call("sure", rank)), *bounds, *HELD, call("sure", rank))

    def test_ranges(self):
        for setup in ([], HELD):
            self.ranges_held(setup, "sure", [(0, 9)], [5])


class ManyAtOnce(LineCase):
    def test_one_does_not_change_the_next(self):
        ones = [call("greatest", 5, 20, 1), call("goes", 9), call("lasts", 50), call("senders"), call("sure", 3)]
        alone = [last(*HELD, one) for one in ones]
        self.assertEqual(run(*HELD, *ones, *ones)[len(HELD):], alone * 2)
