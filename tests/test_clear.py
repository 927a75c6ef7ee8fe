"""Call 29: clear."""

from tests.lines import CALL_NAMES, FULL, LineCase, call, comer, last, probes, row, run, thing

THINGS = row(thing(1, 6, 4, 9, 0, 1), thing(2, 5, 3, 9, 0, 1), thing(3, 5, 5, 9, 0, 1))
COMERS = row(comer(1, 1, 6, 4, 9, 0, 1), comer(2, 2, 5, 3, 9, 0, 1))
# A call of every kind but clear, then some that are refused.
EVERY = [call("room", 30), call("limits", [29] * 10), call("share", 28), call("arrive", *thing(1, 5, 1, 50, 1, 3)),
         call("would", *thing(2, 30, 9)), call("why", *thing(2, 30, 9)), call("arrive", *thing(3, 5, 3, 50)),
         call("drop", 3), call("bind", 1, 1), call("promise", *thing(4, 5, 2, 60)), call("fulfil", 4),
         call("promise", *thing(5, 5, 2, 60)), call("cancel", 5), call("promise", *thing(6, 5, 2, 60)),
         call("tick", 7), call("items"), call("item", 1), call("used"), call("greatest", 5, 50, 1), call("goes", 3),
         call("kept", THINGS), call("order", THINGS), call("greedy", THINGS), call("best", THINGS),
         call("online", COMERS), call("known", COMERS), call("lasts", 55), call("senders"), call("fair", [9, 8, 7]),
         call("sure", 4), call("cheapest", *thing(7, 20, 9)), call("ends", THINGS)]
REFUSED = [call("room", 1), call("share", 201), call("arrive", *thing(1)), call("drop", 1), call("fulfil", 1),
           call("tick", 1001), call("kept", THINGS[1:]), call("fair", [])]


class Clear(LineCase):
    def test_every_call_is_behind_it(self):
        self.assertEqual(sorted({one[0] for one in EVERY}), list(range(29)))
        for one, told in zip(EVERY, run(*EVERY)):
            self.assertGreaterEqual(told[0], 0, CALL_NAMES[one[0]])

    def test_answers_0(self):
        for setup in ([], EVERY, REFUSED, EVERY + REFUSED, FULL):
            self.told([0], *setup, call("clear"))

    def test_all_is_as_at_first(self):
        shown = probes(EVERY) + [call("greatest", 0, 1, 0), call("senders"), call("lasts", 100000), call("goes", 200)]
        first = run(*shown)
        for setup in ([], EVERY, EVERY + REFUSED, EVERY[:14], [call("tick", 1000)] * 100, FULL):
            self.assertEqual(run(*setup, call("clear"), *shown)[len(setup) + 1:], first)

    def test_each_part(self):
        self.told([0, 20, 0, 0] + [0] * 10, *EVERY, call("clear"), call("used"))
        self.told([0], *EVERY, call("clear"), call("items"))
        self.told([-5], *EVERY, call("clear"), call("item", 1))
        self.told([1, 0, 0], call("room", 50), call("clear"), call("why", *thing(1, 21)))
        self.told([0], call("limits", [1] * 10), call("clear"), call("why", *thing(1, 20)))
        self.told([0], call("share", 1), call("clear"), call("why", *thing(1, 20)))
        self.told([1, 0], call("tick", 50), call("clear"), call("arrive", *thing(1, 1, 0, 1)))
        self.told([1000, 0], *[call("tick", 1000)] * 100, call("clear"), call("tick", 1000))

    def test_the_same_calls_are_answered_alike_again(self):
        once = run(*EVERY, *REFUSED)
        self.assertEqual(run(*EVERY, *REFUSED, call("clear"), *EVERY, *REFUSED), once + [[0]] + once)

    def test_twice(self):
        self.assertEqual(run(*EVERY, call("clear"), call("clear"), call("items"))[-3:], [[0], [0], [0]])

    def test_numbers_are_free_again_and_not_bound(self):
        held = [call("promise", *thing(1, 5)), call("clear"), call("arrive", *thing(1, 5))]
        self.told([1, 5, 0, 100, 0, 0, 0, 0], *held, call("item", 1))
        self.told([1, 0], *FULL, call("clear"), call("arrive", *thing(0)))
        self.assertEqual(last(*FULL, call("clear"), *FULL, call("items"))[0], 40)
