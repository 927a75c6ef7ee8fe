"""Calls 6, 7, 9, 10, 12, 13 and 14: drop, bind, fulfil, cancel, items, item, used."""

from tests.lines import LineCase, call, run, thing

# 1 is free, 2 is bound, 3 is promised.
HELD = [call("room", 60), call("arrive", *thing(1, 10, 2, 100, 1, 11)), call("arrive", *thing(2, 20, 4, 90, 2, 22)),
        call("bind", 2, 1), call("promise", *thing(3, 15, 3, 80, 3, 33))]
NUMBER = [(0, 999)]


def flags(number, *calls):
    """Whether the thing is bound and promised after the calls."""
    return run(*HELD, *calls, call("item", number))[-1][6:]


class Drop(LineCase):
    def test_lets_go(self):
        self.assertEqual(run(*HELD, call("drop", 1), call("items"), call("item", 1), call("used"))[5:],
                         [[2], [2, 2, 3], [-5], [0, 60, 35, 2, 0, 0, 0, 15, 35, 35, 35, 35, 35, 35]])
        self.assertEqual(run(call("arrive", *thing(0)), call("drop", 0), call("items")), [[1, 0], [0], [0]])

    def test_edges(self):
        for number in (0, 999):
            self.told([0], call("arrive", *thing(number)), call("drop", number))
        self.ranges_held(HELD, "drop", NUMBER, [1])
        self.ranges_held([], "drop", NUMBER, [1])

    def test_not_there(self):
        self.refused(-5, HELD, call("drop", 4))
        self.refused(-5, [], call("drop", 0))
        self.refused(-5, HELD + [call("drop", 1)], call("drop", 1))

    def test_bound(self):
        self.refused(-9, HELD, call("drop", 2))
        self.refused(-9, HELD, call("drop", 3))
        self.told([2], *HELD, call("bind", 2, 0), call("drop", 2))
        self.told([2], *HELD, call("fulfil", 3), call("drop", 3))


class Bind(LineCase):
    def test_binds_and_frees(self):
        self.assertEqual(flags(1), [0, 0])
        self.told([0], *HELD, call("bind", 1, 1))
        self.assertEqual(flags(1, call("bind", 1, 1)), [1, 0])
        self.assertEqual(flags(1, call("bind", 1, 1), call("bind", 1, 1)), [1, 0])
        self.told([0], *HELD, call("bind", 2, 0))
        self.assertEqual(flags(2), [1, 0])
        self.assertEqual(flags(2, call("bind", 2, 0)), [0, 0])
        self.assertEqual(flags(2, call("bind", 2, 0), call("bind", 2, 0)), [0, 0])

    def test_binds_that_thing_alone(self):
        self.assertEqual(flags(2, call("bind", 1, 1), call("bind", 1, 0)), [1, 0])
        self.assertEqual(flags(1, call("bind", 2, 0), call("bind", 2, 1)), [0, 0])
        self.assertEqual(flags(3, call("bind", 1, 1), call("bind", 2, 0)), [1, 1])

    def test_edges(self):
        for number in (0, 999):
            for on in (0, 1):
                self.told([0], call("arrive", *thing(number)), call("bind", number, on))
        self.ranges_held(HELD, "bind", [(0, 999), (0, 1)], [1, 1])
        self.ranges_held(HELD, "bind", [(0, 999), (0, 1)], [2, 0])

    def test_refusals(self):
        for on in (0, 1):
            self.refused(-5, HELD, call("bind", 4, on))
            self.refused(-9, HELD, call("bind", 3, on))
            self.told([0], *HELD, call("fulfil", 3), call("bind", 3, on))

    def test_wrong_before_not_there_or_promised(self):
        self.refused(-1, HELD, call("bind", 4, 2))
        self.refused(-1, HELD, call("bind", 3, 2))
        self.refused(-1, HELD, call("bind", 3, -1))

    def test_a_thing_that_is_back_is_free(self):
        self.assertEqual(flags(2, call("bind", 2, 0), call("drop", 2), call("arrive", *thing(2))), [0, 0])
        self.assertEqual(flags(3, call("cancel", 3), call("arrive", *thing(3))), [0, 0])


class Fulfil(LineCase):
    def test_frees(self):
        self.told([0], *HELD, call("fulfil", 3))
        self.assertEqual(flags(3), [1, 1])
        self.assertEqual(flags(3, call("fulfil", 3)), [0, 0])
        self.told([3, 2, 3, 1], *HELD, call("fulfil", 3), call("items"))

    def test_edges(self):
        for number in (0, 999):
            self.told([0], call("promise", *thing(number)), call("fulfil", number))
        self.ranges_held(HELD, "fulfil", NUMBER, [3])

    def test_refusals(self):
        self.refused(-5, HELD, call("fulfil", 4))
        self.refused(-9, HELD, call("fulfil", 1))
        self.refused(-9, HELD, call("fulfil", 2))
        self.refused(-9, HELD + [call("fulfil", 3)], call("fulfil", 3))


class Cancel(LineCase):
    def test_lets_go(self):
        self.assertEqual(run(*HELD, call("cancel", 3), call("items"), call("item", 3))[5:], [[2], [2, 2, 1], [-5]])
        self.assertEqual(run(call("promise", *thing(0)), call("cancel", 0), call("items")), [[1, 0], [0], [0]])

    def test_edges(self):
        for number in (0, 999):
            self.told([0], call("promise", *thing(number)), call("cancel", number))
        self.ranges_held(HELD, "cancel", NUMBER, [3])

    def test_refusals(self):
        self.refused(-5, HELD, call("cancel", 4))
        self.refused(-9, HELD, call("cancel", 1))
        self.refused(-9, HELD, call("cancel", 2))
        self.refused(-9, HELD + [call("fulfil", 3)], call("cancel", 3))
        self.refused(-5, HELD + [call("cancel", 3)], call("cancel", 3))


class Items(LineCase):
    def test_strongest_first(self):
        self.told([0], call("items"))
        self.told([3, 2, 3, 1], *HELD, call("items"))
        many = [call("arrive", *thing(n, 1, r, e)) for n, r, e in
                ((5, 1, 9), (4, 1, 9), (6, 1, 9), (7, 1, 8), (3, 1, 10), (9, 2, 1), (0, 0, 100000), (8, 9, 1))]
        self.told([8, 8, 9, 3, 4, 5, 6, 7, 0], *many, call("items"))

    def test_changes_nothing(self):
        self.assertEqual(self.changes_nothing(HELD, call("items")), [3, 2, 3, 1])


class Item(LineCase):
    def test_tells_all(self):
        self.told([1, 10, 2, 100, 1, 11, 0, 0], *HELD, call("item", 1))
        self.told([2, 20, 4, 90, 2, 22, 1, 0], *HELD, call("item", 2))
        self.told([3, 15, 3, 80, 3, 33, 1, 1], *HELD, call("item", 3))

    def test_edges(self):
        for number in (0, 999):
            self.told([number, 1, 0, 100, 0, 0, 0, 0], call("arrive", *thing(number)), call("item", number))
        self.ranges_held(HELD, "item", NUMBER, [1])

    def test_not_there(self):
        self.refused(-5, HELD, call("item", 4))
        self.refused(-5, [], call("item", 0))
        self.refused(-5, [], call("item", 999))

    def test_changes_nothing(self):
        for number in (1, 2, 3):
            self.changes_nothing(HELD, call("item", number))


class Used(LineCase):
    def test_tells_all(self):
        self.told([0, 20, 0, 0] + [0] * 10, call("used"))
        self.told([0, 60, 45, 3, 0, 0, 10, 25, 45, 45, 45, 45, 45, 45], *HELD, call("used"))
        self.told([80, 60, 30, 2, 0, 0, 10, 10, 30, 30, 30, 30, 30, 30], *HELD, call("tick", 80), call("used"))

    def test_every_rank(self):
        for rank in range(10):
            self.told([0, 20, 7, 1] + [7 if r >= rank else 0 for r in range(10)],
                      call("arrive", *thing(1, 7, rank)), call("used"))

    def test_changes_nothing(self):
        self.changes_nothing(HELD, call("used"))
