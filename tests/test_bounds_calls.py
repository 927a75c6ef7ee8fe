"""Calls 0 to 2: room, limits, share."""

from tests.lines import GREATEST, LEAST, LineCase, call, last, run, thing

WIDE = [200] * 10
STORE = [call("room", 50), call("arrive", *thing(1, 10, 3, 100, 2)), call("arrive", *thing(2, 5, 6, 100, 2)),
         call("arrive", *thing(3, 7, 6, 100, 4)), call("bind", 2, 1)]


class AtFirst(LineCase):
    def test_room_is_20(self):
        self.told([0], call("why", *thing(1, 20)))
        self.told([1, 0, 0], call("why", *thing(1, 21)))
        self.told([0, 20, 0, 0] + [0] * 10, call("used"))

    def test_limits_and_share_are_200(self):
        filled = [call("room", 200)] + [call("arrive", *thing(k, 50)) for k in range(4)]
        self.assertEqual(run(*filled), [[0]] + [[1, 0]] * 4)
        self.told([12, 0, 0] + [n for r in range(10) for n in (1, r)] + [2, 0], *filled, call("why", *thing(9, 1, 0, 9)))

    def test_limits_of_all_ranks_are_200(self):
        for rank in range(10):
            filled = [call("room", 200)] + [call("arrive", *thing(k, 50, rank, 100, k)) for k in range(4)]
            self.assertEqual(run(*filled), [[0]] + [[1, 0]] * 4)


class Room(LineCase):
    def test_sets_the_room(self):
        for n in (1, 7, 20, 49):
            self.told([0], call("room", n))
            self.told([0], call("room", n), call("why", *thing(1, n)))
            self.told([1, 0, 0], call("room", n), call("why", *thing(1, n + 1)))
            self.told([0, n, 0, 0] + [0] * 10, call("room", n), call("used"))

    def test_edges(self):
        self.assertEqual(run(call("room", 0), call("used")), [[0], [0, 0, 0, 0] + [0] * 10])
        self.assertEqual(run(call("room", 200), call("used")), [[0], [0, 200, 0, 0] + [0] * 10])
        self.told([0], call("room", 0), call("arrive", *thing(1)))
        self.ranges_held([], "room", [(0, 200)], [20])
        self.ranges_held(STORE, "room", [(0, 200)], [50])

    def test_store_must_fit(self):
        self.refused(-3, STORE, call("room", 21))
        self.refused(-3, STORE, call("room", 0))
        self.told([0], *STORE, call("room", 22))
        self.told([0, 22, 22, 3, 0, 0, 0, 10, 10, 10, 22, 22, 22, 22], *STORE, call("room", 22), call("used"))

    def test_leaves_limits_and_share(self):
        bounds = [call("limits", [9, 11, 13, 15, 17, 19, 21, 23, 25, 27]), call("share", 8), call("room", 6)]
        for rank in range(10):
            limit = 9 + 2 * rank
            broken = [n for r in range(rank, 10) if 9 + 2 * r < limit + 1 for n in (1, r)]
            self.told([3, 0, 0] + broken + [2, 5], *bounds, call("why", *thing(1, limit + 1, rank, 9, 5)))
            self.told([2, 0, 0, 2, 5], *bounds, call("why", *thing(1, limit, rank, 9, 5)))


class Limits(LineCase):
    def test_sets_each_limit(self):
        for rank in range(10):
            limits = list(WIDE)
            limits[rank] = 6
            self.told([0], call("limits", limits))
            for own in range(10):
                self.told([0], call("limits", limits), call("why", *thing(1, 6, own)))
                self.told([1, 1, rank] if own <= rank else [0], call("limits", limits), call("why", *thing(1, 7, own)))

    def test_edges_of_each_number(self):
        for place in range(10):
            for right in (0, 200):
                limits = [100] * 10
                limits[place] = right
                self.told([0], call("limits", limits))
            for wrong in (-1, 201, LEAST, GREATEST):
                limits = [100] * 10
                limits[place] = wrong
                self.refused(-1, [], call("limits", limits))
                self.refused(-1, STORE, call("limits", limits))

    def test_every_wrong_length(self):
        for length in range(121):
            if length != 10:
                self.assertEqual(run(call("limits", [3] * length), call("why", *thing(1, 4))), [[-1], [0]])
        for length in (0, 1, 9, 11, 20, 100, 120):
            self.refused(-1, STORE, call("limits", [100] * length))
            self.refused(-1, [], call("limits", [GREATEST] * length))

    def test_wrong_before_not_fitting(self):
        self.refused(-1, STORE, call("limits", [0] * 9))
        self.refused(-1, STORE, call("limits", [0] * 11))
        self.refused(-1, STORE, call("limits", [0] * 9 + [201]))
        self.refused(-1, STORE, call("limits", [-1] + [0] * 9))

    def test_store_must_fit(self):
        least = [0, 0, 0, 10, 10, 10, 22, 22, 22, 22]
        self.told([0], *STORE, call("limits", least))
        for rank in range(3, 10):
            limits = list(least)
            limits[rank] -= 1
            self.refused(-3, STORE, call("limits", limits))

    def test_limits_may_fall_with_the_rank(self):
        self.told([0], call("limits", [20, 10] + WIDE[:8]))
        self.told([1, 1, 1], call("limits", [20, 10] + WIDE[:8]), call("why", *thing(1, 11, 0)))

    def test_leaves_room_and_share(self):
        self.told([2, 0, 0, 2, 1], call("room", 5), call("share", 6), call("limits", WIDE),
                  call("why", *thing(1, 7, 0, 9, 1)))
        self.told([0], call("room", 5), call("share", 6), call("limits", WIDE), call("why", *thing(1, 5, 0, 9, 1)))


class Share(LineCase):
    def test_sets_the_share(self):
        for n in (1, 7, 20):
            self.told([0], call("share", n))
            self.told([0], call("share", n), call("why", *thing(1, n)))
        self.told([1, 2, 4], call("share", 7), call("why", *thing(1, 8, 0, 9, 4)))

    def test_edges(self):
        self.told([1, 2, 0], call("share", 0), call("why", *thing(1)))
        self.told([0], call("share", 200))
        self.ranges_held([], "share", [(0, 200)], [20])
        self.ranges_held(STORE, "share", [(0, 200)], [50])

    def test_store_must_fit(self):
        self.refused(-3, STORE, call("share", 14))
        self.refused(-3, STORE, call("share", 0))
        self.told([0], *STORE, call("share", 15))

    def test_each_sender_counts(self):
        for sender in range(8):
            held = [call("arrive", *thing(1, 6, 0, 9, sender)), call("arrive", *thing(2, 4, 9, 9, sender))]
            self.told([-3], *held, call("share", 9))
            self.told([0], *held, call("share", 10))

    def test_leaves_room_and_limits(self):
        bounds = [call("room", 5), call("limits", [6] * 10), call("share", 200)]
        self.told([11, 0, 0] + [n for r in range(10) for n in (1, r)], *bounds, call("why", *thing(1, 7)))
        self.assertEqual(last(*bounds, call("why", *thing(1, 5))), [0])
