"""Call 11: tick."""

from tests.lines import LineCase, call, run, thing

HELD = [call("arrive", *thing(1, 2, 3, 10)), call("arrive", *thing(2, 2, 5, 10)), call("arrive", *thing(3, 2, 1, 11)),
        call("arrive", *thing(4, 2, 7, 12)), call("arrive", *thing(5, 2, 3, 10))]
NEARLY = [call("tick", 1000)] * 99 + [call("tick", 999)]


class Tick(LineCase):
    def test_time_goes_on(self):
        self.assertEqual(run(call("tick", 5), call("tick", 0), call("tick", 7), call("used")),
                         [[5, 0], [5, 0], [12, 0], [12, 20, 0, 0] + [0] * 10])

    def test_things_are_let_go_at_their_end(self):
        self.assertEqual(run(*HELD, call("tick", 9), call("tick", 1), call("items"), call("tick", 2), call("items"))[5:],
                         [[9, 0], [10, 3, 2, 1, 5], [2, 4, 3], [12, 2, 4, 3], [0]])
        self.assertEqual(run(*HELD, call("tick", 1000), call("items"))[5:], [[1000, 5, 4, 2, 1, 5, 3], [0]])

    def test_bound_and_promised_things_are_let_go(self):
        more = [call("bind", 1, 1), call("promise", *thing(6, 2, 9, 10)), call("promise", *thing(7, 2, 9, 20))]
        self.assertEqual(run(*HELD, *more, call("tick", 10), call("items"))[8:], [[10, 4, 6, 2, 1, 5], [3, 7, 4, 3]])
        self.told([-5], *HELD, *more, call("tick", 10), call("cancel", 6))

    def test_their_numbers_and_their_room_are_free_again(self):
        self.told([1, 0], *HELD, call("tick", 10), call("arrive", *thing(1, 16, 0, 11)))

    def test_nothing_at_no_time(self):
        self.assertEqual(self.changes_nothing(HELD, call("tick", 0)), [0, 0])
        self.assertEqual(self.changes_nothing(HELD + [call("tick", 10)], call("tick", 0)), [10, 0])

    def test_edges(self):
        self.told([1000, 0], call("tick", 1000))
        self.ranges_held([], "tick", [(0, 1000)], [5])
        self.ranges_held(HELD, "tick", [(0, 1000)], [5])

    def test_last_moment(self):
        self.told([99999, 0], *NEARLY)
        self.told([100000, 0], *NEARLY, call("tick", 1))
        for n in (2, 3, 1000):
            self.refused(-3, NEARLY, call("tick", n))
        self.refused(-3, NEARLY + [call("tick", 1)], call("tick", 1))
        self.told([100000, 0], *NEARLY, call("tick", 1), call("tick", 0))

    def test_what_ends_at_the_last_moment(self):
        late = [call("arrive", *thing(1, 1, 2, 100000)), call("promise", *thing(2, 1, 3, 99999))]
        self.assertEqual(run(*late, *NEARLY, call("items"), call("tick", 1), call("items"))[-4:],
                         [[99999, 1, 2], [1, 1], [100000, 1, 1], [0]])
        self.refused(-3, late + NEARLY, call("tick", 2))
        self.refused(-7, NEARLY + [call("tick", 1)], call("arrive", *thing(1, 1, 0, 100000)))

    def test_wrong_before_too_late(self):
        self.refused(-1, NEARLY, call("tick", 1001))
        self.refused(-1, NEARLY, call("tick", -1))
