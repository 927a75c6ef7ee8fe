"""Call 5: why."""

from tests.lines import FULL, THING_RANGES, LineCase, call, last, thing

WIDE = [200] * 10


class Why(LineCase):
    def why(self, answer, setup, new):
        self.assertEqual(self.changes_nothing(setup, call("why", *new)), answer)
        taken = last(*setup, call("would", *new))[0]
        self.assertEqual(taken, 1 if answer == [0] else 0)

    def test_none(self):
        self.why([0], [], thing(1, 20))
        self.why([0], [call("arrive", *thing(1, 20, 3))], thing(2, 20, 4))

    def test_the_room(self):
        self.why([1, 0, 0], [], thing(1, 21))
        self.why([1, 0, 0], [call("arrive", *thing(1, 15, 5))], thing(2, 6, 4))
        self.why([0], [call("arrive", *thing(1, 15, 5))], thing(2, 5, 4))

    def test_only_what_may_not_go_counts(self):
        held = [call("arrive", *thing(1, 10, 5)), call("arrive", *thing(2, 10, 3))]
        self.why([0], held, thing(3, 10, 4))
        self.why([1, 0, 0], held, thing(3, 11, 4))
        self.why([0], held, thing(3, 20, 6))
        self.why([1, 0, 0], held + [call("bind", 2, 1)], thing(3, 1, 4))
        self.why([1, 0, 0], held + [call("bind", 2, 1)], thing(3, 11, 6))
        self.why([0], held + [call("bind", 2, 1)], thing(3, 10, 6))

    def test_each_limit(self):
        for rank in range(10):
            limits = list(WIDE)
            limits[rank] = 9
            for own in range(10):
                self.why([1, 1, rank] if own <= rank else [0], [call("limits", limits)], thing(1, 10, own))
                self.why([0], [call("limits", limits)], thing(1, 9, own))

    def test_limits_by_ranks(self):
        limits = [200, 5, 200, 7, 9, 8, 200, 7, 200, 3]
        self.why([5, 1, 1, 1, 3, 1, 5, 1, 7, 1, 9], [call("limits", limits)], thing(1, 9, 0))
        self.why([4, 1, 3, 1, 5, 1, 7, 1, 9], [call("limits", limits)], thing(1, 9, 2))
        self.why([1, 1, 9], [call("limits", limits)], thing(1, 7, 2))

    def test_limits_with_bound_things_below(self):
        limits = [200, 200, 10] + WIDE[:7]
        held = [call("limits", limits), call("arrive", *thing(1, 6, 1)), call("arrive", *thing(2, 4, 2, 50))]
        self.why([0], held, thing(3, 10, 2, 60))
        self.why([1, 1, 2], held + [call("bind", 1, 1)], thing(3, 5, 2, 60))
        self.why([0], held + [call("bind", 1, 1)], thing(3, 4, 2, 60))
        self.why([1, 1, 2], held, thing(3, 7, 2, 40))

    def test_the_share(self):
        for sender in range(8):
            self.why([1, 2, sender], [call("share", 8)], thing(1, 9, 0, 9, sender))
            self.why([0], [call("share", 8)], thing(1, 8, 0, 9, sender))
            held = [call("share", 8), call("arrive", *thing(1, 8, 5, 9, sender))]
            self.why([1, 2, sender], held, thing(2, 1, 4, 9, sender))
            self.why([0], held, thing(2, 8, 4, 9, (sender + 1) % 8))
            self.why([0], held, thing(2, 8, 6, 9, sender))

    def test_several_together(self):
        bounds = [call("share", 6), call("limits", [200, 5, 200, 7] + WIDE[:6])]
        self.why([4, 0, 0, 1, 1, 1, 3, 2, 6], bounds, thing(1, 21, 0, 9, 6))
        self.why([3, 1, 1, 1, 3, 2, 6], bounds, thing(1, 20, 1, 9, 6))
        self.why([2, 1, 3, 2, 6], bounds, thing(1, 20, 2, 9, 6))
        self.why([1, 2, 6], bounds, thing(1, 20, 4, 9, 6))
        self.why([2, 0, 0, 2, 6], bounds, thing(1, 21, 4, 9, 6))
        self.why([1, 1, 1], bounds, thing(1, 6, 1, 9, 6))

    def test_all_bounds(self):
        every = [n for rank in range(10) for n in (1, rank)]
        self.why([12, 0, 0] + every + [2, 7], [call("room", 0), call("limits", [0] * 10), call("share", 0)],
                 thing(1, 1, 0, 1, 7))

    def test_ranges(self):
        self.ranges_held([], "why", THING_RANGES, thing(500, 5, 5, 500, 5, 500))
        self.ranges_held([call("arrive", *thing(1, 15, 3))], "why", THING_RANGES, thing(500, 50, 5, 500, 5, 500))

    def test_new(self):
        held = [call("arrive", *thing(4, 3))]
        self.refused(-6, held, call("why", *thing(4, 3)))
        self.refused(-7, [call("tick", 9)], call("why", *thing(4, 50, 0, 9)))
        self.told([0], call("tick", 9), call("why", *thing(4, 3, 0, 10)))
        self.refused(-8, FULL, call("why", *thing(500, 50, 9, 9)))

    def test_order_of_refusals(self):
        later = FULL + [call("tick", 5)]
        self.refused(-1, later, call("why", *thing(3, 51, 0, 5)))
        self.refused(-6, later, call("why", *thing(3, 1, 0, 5)))
        self.refused(-7, later, call("why", *thing(500, 1, 0, 5)))
        self.refused(-8, later, call("why", *thing(500, 1, 0, 6)))
