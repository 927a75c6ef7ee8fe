"""What all calls on a list share: its length, its ranges, no number twice, and that the store does not count."""

from tests.lines import GREATEST, LEAST, LISTS, THING_RANGES, LineCase, call, comer, last, row, run, thing

MIDDLE = (500, 5, 5, 500, 5, 500)
# A store that is full, bound things among it, and a late present moment.
BUSY = [call("arrive", *thing(k, 2, 9, 99990 + k, k % 8, 7)) for k in range(10)] + [call("bind", 3, 1)]
BUSY += [call("promise", *thing(999, 0 + 1, 9, 99999)), call("tick", 1000)]
BOUNDS = [call("room", 21), call("limits", [9, 12, 13, 14, 15, 16, 17, 18, 19, 200]), call("share", 15)]
HELD = [call("arrive", *thing(1, 4, 2, 50, 1, 3)), call("arrive", *thing(2, 5, 4, 90, 2, 4)), call("bind", 1, 1)]


def some(name, count):
    """That many right things for the call, all unlike."""
    things = [thing(40 + k, 1 + 7 * k % 11, 3 * k % 10, 20 + 5 * k % 7, k % 8, 2 * k % 5) for k in range(count)]
    return things if LISTS[name][0] == 6 else [(4 * k % 9,) + one for k, one in enumerate(things)]


class Lists(LineCase):
    def test_every_length(self):
        for name, (width, most) in LISTS.items():
            numbers = row(*some(name, 21))
            for length in range(121):
                told = last(call(name, numbers[:length]))
                right = length % width == 0 and length <= width * most
                self.assertEqual(told != [-1], right, (name, length, told))

    def test_every_wrong_length_of_wrong_numbers(self):
        for name, (width, most) in LISTS.items():
            for wrong in (0, -1, LEAST, GREATEST):
                for length in range(1, 121):
                    self.told([-1], call(name, [wrong] * length))

    def test_one_thing_too_many(self):
        for name, (width, most) in LISTS.items():
            self.assertNotEqual(last(call(name, row(*some(name, most)))), [-1])
            self.refused(-1, HELD, call(name, row(*some(name, most + 1))))
            self.refused(-1, [], call(name, row(*some(name, most + 1))))

    def test_a_number_too_few_or_too_many(self):
        for name, (width, most) in LISTS.items():
            for count in (1, 2, most):
                right = row(*some(name, count))
                self.refused(-1, HELD, call(name, right[:-1]))
                self.refused(-1, HELD, call(name, right[1:]))
                self.told([-1], call(name, right + [1]))

    def test_empty_lists(self):
        answers = {"kept": [0], "order": [1], "greedy": [0], "best": [0, 0], "online": [0, 0], "known": [0, 0],
                   "ends": [1, 0, 0]}
        for name in LISTS:
            for setup in ([], BUSY, [call("room", 0), call("limits", [0] * 10), call("share", 0)]):
                self.told(answers[name], *setup, call(name, []))

    def test_ranges_at_every_place(self):
        for name, (width, most) in LISTS.items():
            for count in (1, 3, most):
                for at in sorted({0, count // 2, count - 1}):
                    self.ranges_at(name, some(name, count), at)

    def ranges_at(self, name, things, at):
        ahead = LISTS[name][0] - 6
        for place, (low, high) in enumerate(THING_RANGES):
            for value, right in ((low - 1, False), (high + 1, False), (LEAST, False), (GREATEST, False),
                                 (low, True), (high, True)):
                one = list(things[at])
                one[ahead + place] = value
                if ahead:
                    one[0] = 0
                told = last(call(name, row(*things[:at], one, *things[at + 1:])))
                self.assertEqual(told != [-1], right, (name, one))

    def test_ranges_change_nothing(self):
        for name in LISTS:
            one = list(some(name, 1)[0])
            one[-1] = 1001
            self.refused(-1, HELD, call(name, one))
            one[-1] = -1
            self.refused(-1, HELD, call(name, one))

    def test_one_number_twice(self):
        for name, (width, most) in LISTS.items():
            for count in (2, 3, most):
                for first, second in ((0, 1), (0, count - 1), (count - 2, count - 1)):
                    things = [list(one) for one in some(name, count)]
                    things[second][width - 6] = things[first][width - 6]
                    self.told([-1], call(name, row(*things)))
            self.refused(-1, HELD, call(name, row(*things)))
            same = some(name, 1)[0]
            self.told([-1], call(name, row(same, same)))

    def test_moments(self):
        for name in ("online", "known"):
            for end in (1, 2, 50, 100000):
                for moment, right in ((0, True), (end - 1, True), (end, False), (end + 1, False), (-1, False),
                                      (100000, False), (100001, False), (LEAST, False), (GREATEST, False)):
                    told = last(call(name, row(comer(moment, 7, 1, 0, end, 0, 3))))
                    self.assertEqual(told, [3, 1, 7] if right else [-1], (name, moment, end))
                    told = last(call(name, row(comer(0, 8), comer(moment, 7, 1, 0, end, 0, 3))))
                    self.assertEqual(told != [-1], right, (name, moment, end))
            self.refused(-1, HELD, call(name, row(comer(100, 7, end=100))))

    def test_numbers_of_the_store_are_free(self):
        for name, (width, most) in LISTS.items():
            one = thing(1) if width == 6 else comer(0, 1)
            self.assertNotEqual(last(*HELD, call(name, row(one))), [-1])


class NothingElseCounts(LineCase):
    def test_nothing_changes(self):
        for name, (width, most) in LISTS.items():
            for count in (0, 1, most):
                told = self.changes_nothing(HELD, call(name, row(*some(name, count))))
                self.assertNotEqual(told, [-1])

    def test_the_store_and_the_moment_do_not_count(self):
        for name, (width, most) in LISTS.items():
            for count in range(1, most + 1):
                one = call(name, row(*some(name, count)))
                self.told(last(*BOUNDS, one), *BUSY, *BOUNDS, one)
                self.told(last(one), *BUSY, one)

    def test_ends_that_are_past(self):
        for setup in ([], [call("tick", 1000)], [call("tick", 1000)] * 100):
            one = thing(3, 2, 1, 1, 0, 9)
            self.told([1, 3], *setup, call("kept", row(one)))
            self.told([1], *setup, call("order", row(one)))
            self.told([1, 3], *setup, call("greedy", row(one)))
            self.told([9, 1, 3], *setup, call("best", row(one)))
            self.told([1, 9, 1, 3], *setup, call("ends", row(one)))
            self.told([9, 1, 3], *setup, call("online", row((0,) + one)))
            self.told([9, 1, 3], *setup, call("known", row((0,) + one)))

    def test_the_bounds_count(self):
        ones = [thing(1, 3, 2, 9, 4, 1), thing(2, 3, 5, 9, 4, 1)]
        for bounds, count in (([call("room", 6)], 2), ([call("room", 5)], 1), ([call("room", 2)], 0),
                              ([call("share", 6)], 2), ([call("share", 5)], 1), ([call("share", 2)], 0),
                              ([call("limits", [200] * 5 + [6] + [200] * 4)], 2),
                              ([call("limits", [200] * 5 + [5] + [200] * 4)], 1),
                              ([call("limits", [200] * 2 + [2] + [200] * 7)], 1),
                              ([call("limits", [200] * 9 + [2])], 0)):
            numbers = [[], [2], [2, 1]][count]
            for name in ("kept", "greedy"):
                self.told([count] + numbers, *bounds, call(name, row(*ones)))
            self.told([count, count] + sorted(numbers), *bounds, call("best", row(*ones)))
            self.told([1, count, count] + numbers, *bounds, call("ends", row(*ones)))
            at_once = row(*[(3,) + one for one in ones])
            self.told([count, count] + numbers, *bounds, call("online", at_once))
            self.told([count, count] + sorted(numbers), *bounds, call("known", at_once))

    def test_one_call_leaves_nothing_for_the_next(self):
        lines = [call(name, row(*some(name, count))) for name in LISTS for count in (5, 2)]
        alone = [last(one) for one in lines]
        self.assertEqual(run(*lines), alone)
        self.assertEqual(run(*reversed(lines)), alone[::-1])
