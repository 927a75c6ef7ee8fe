"""Calls 3, 4 and 8: arrive, would, promise, which take things by one rule."""

from tests.lines import FULL, THING_RANGES, LineCase, call, last, run, thing

TAKING = ("arrive", "would", "promise")


class TakingCase(LineCase):
    def comes(self, setup, new, answer, kept):
        """All three answer likewise; arrive and promise leave the kept things, would leaves all."""
        for name in TAKING:
            self.told(answer, *setup, call(name, *new))
        self.assertEqual(self.changes_nothing(setup, call("would", *new)), answer)
        for name, flags in (("arrive", [0, 0]), ("promise", [1, 1])):
            items, item = run(*setup, call(name, *new), call("items"), call("item", new[0]))[-2:]
            self.assertEqual(items, [len(kept)] + kept)
            self.assertEqual(item, list(new) + flags if answer[0] == 1 else [-5])

    def stays_out(self, setup, new):
        kept = last(*setup, call("items"))[1:]
        self.comes(setup, new, [0], kept)
        for name in TAKING:
            self.assertEqual(self.changes_nothing(setup, call(name, *new)), [0])


class Taken(TakingCase):
    def test_at_once(self):
        self.comes([], thing(7, 20, 3, 50, 2, 9), [1, 0], [7])
        self.comes([call("arrive", *thing(1, 12, 5))], thing(2, 8, 9), [1, 0], [2, 1])
        self.comes([call("arrive", *thing(1, 12, 5))], thing(2, 8, 0), [1, 0], [1, 2])

    def test_after_one_goes(self):
        held = [call("arrive", *thing(1, 12, 5)), call("arrive", *thing(2, 8, 3))]
        self.comes(held, thing(3, 8, 4), [1, 1, 2], [1, 3])
        self.comes(held, thing(3, 1, 4), [1, 1, 2], [1, 3])

    def test_after_several_go_told_strongest_first(self):
        held = [call("arrive", *thing(k, 5, k)) for k in (2, 4, 1, 3)]
        self.comes(held, thing(9, 15, 8), [1, 3, 3, 2, 1], [9, 4])
        self.comes(held, thing(9, 20, 8), [1, 4, 4, 3, 2, 1], [9])
        self.comes(held, thing(9, 10, 8), [1, 2, 2, 1], [9, 4, 3])

    def test_no_more_go_than_must(self):
        held = [call("arrive", *thing(1, 10, 2)), call("arrive", *thing(2, 10, 1))]
        self.comes(held, thing(3, 10, 5), [1, 1, 2], [3, 1])

    def test_things_come_back(self):
        held = [call("room", 10), call("arrive", *thing(1, 1, 1)), call("arrive", *thing(2, 8, 2))]
        self.comes(held, thing(3, 5, 3), [1, 1, 2], [3, 1])

    def test_the_strongest_comes_back_first(self):
        held = [call("room", 12), call("arrive", *thing(1, 2, 1)), call("arrive", *thing(2, 2, 2)),
                call("arrive", *thing(3, 8, 3))]
        self.comes(held, thing(4, 9, 4), [1, 2, 3, 1], [4, 2])

    def test_what_came_back_counts_for_the_next(self):
        held = [call("room", 12), call("arrive", *thing(1, 1, 1)), call("arrive", *thing(2, 3, 2)),
                call("arrive", *thing(3, 8, 3))]
        self.comes(held, thing(4, 8, 4), [1, 1, 3], [4, 2, 1])
        self.comes(held, thing(4, 9, 4), [1, 2, 3, 1], [4, 2])

    def test_comes_back_when_a_limit_was_broken(self):
        limits = [200] * 5 + [12] + [200] * 4
        held = [call("room", 100), call("limits", limits), call("arrive", *thing(1, 2, 4)),
                call("arrive", *thing(2, 10, 5, 50)), call("arrive", *thing(3, 20, 6))]
        self.comes(held, thing(4, 5, 5, 60), [1, 1, 2], [3, 4, 1])

    def test_comes_back_when_the_share_was_broken(self):
        held = [call("share", 5), call("arrive", *thing(1, 5, 1, 100, 1)), call("arrive", *thing(2, 5, 2, 100, 0))]
        self.comes(held, thing(3, 3, 3, 100, 0), [1, 1, 2], [3, 1])

    def test_a_limit_above_the_own_rank_counts(self):
        limits = [200, 200, 200, 10] + [200] * 6
        held = [call("limits", limits), call("arrive", *thing(1, 4, 0)), call("arrive", *thing(2, 6, 3))]
        self.comes(held, thing(3, 2, 1), [1, 1, 1], [2, 3])
        self.comes(held, thing(3, 10, 4), [1, 0], [3, 2, 1])

    def test_bound_things_stay(self):
        held = [call("arrive", *thing(1, 10, 1)), call("arrive", *thing(2, 10, 2)), call("bind", 1, 1)]
        self.comes(held, thing(3, 10, 3), [1, 1, 2], [3, 1])
        self.comes(held + [call("bind", 1, 0)], thing(3, 10, 3), [1, 1, 1], [3, 2])


class NotTaken(TakingCase):
    def test_for_the_room(self):
        self.stays_out([], thing(1, 21))
        self.stays_out([call("arrive", *thing(1, 12, 5)), call("arrive", *thing(2, 8, 3))], thing(3, 9, 4))
        self.stays_out([call("arrive", *thing(1, 12, 5))], thing(2, 9, 5, 99))

    def test_for_a_limit(self):
        limits = [200] * 4 + [10] + [200] * 5
        self.stays_out([call("limits", limits)], thing(1, 11, 4))
        self.stays_out([call("limits", limits)], thing(1, 11, 0))
        held = [call("limits", limits), call("arrive", *thing(1, 6, 4))]
        self.stays_out(held, thing(2, 5, 3))
        self.comes(held, thing(2, 4, 3), [1, 0], [1, 2])
        self.comes(held, thing(2, 14, 5), [1, 0], [2, 1])

    def test_for_the_share(self):
        held = [call("share", 6), call("arrive", *thing(1, 4, 4, 100, 3)), call("arrive", *thing(2, 6, 1, 100, 5))]
        self.stays_out(held, thing(3, 3, 3, 100, 3))
        self.comes(held, thing(3, 3, 3, 100, 2), [1, 0], [1, 3, 2])
        self.comes(held, thing(3, 3, 5, 100, 3), [1, 1, 1], [3, 2])

    def test_for_bound_things(self):
        held = [call("arrive", *thing(1, 10, 1)), call("arrive", *thing(2, 5, 2)), call("bind", 1, 1)]
        self.stays_out(held, thing(3, 11, 9))
        self.comes(held, thing(3, 10, 9), [1, 1, 2], [3, 1])

    def test_for_promised_things(self):
        held = [call("promise", *thing(1, 10, 1))]
        self.stays_out(held, thing(3, 11, 9))
        self.comes(held + [call("fulfil", 1)], thing(3, 11, 9), [1, 1, 1], [3])

    def test_nothing_goes_though_some_might(self):
        held = [call("arrive", *thing(1, 10, 5)), call("arrive", *thing(2, 10, 1))]
        self.stays_out(held, thing(3, 11, 3))


class Ties(TakingCase):
    def test_of_rank_the_later_end_is_stronger(self):
        held = [call("arrive", *thing(1, 20, 3, 50))]
        self.comes(held, thing(2, 20, 3, 51), [1, 1, 1], [2])
        self.stays_out(held, thing(2, 20, 3, 49))

    def test_of_end_the_lesser_number_is_stronger(self):
        held = [call("arrive", *thing(5, 20, 3, 50))]
        self.comes(held, thing(4, 20, 3, 50), [1, 1, 5], [4])
        self.stays_out(held, thing(6, 20, 3, 50))

    def test_rank_before_end_before_number(self):
        held = [call("arrive", *thing(5, 20, 3, 50))]
        self.comes(held, thing(900, 20, 4, 2), [1, 1, 5], [900])
        self.stays_out(held, thing(0, 20, 2, 100000))
        self.comes(held, thing(900, 20, 3, 51), [1, 1, 5], [900])
        self.stays_out(held, thing(0, 20, 3, 49))

    def test_size_sender_and_worth_do_not_count(self):
        held = [call("arrive", *thing(5, 20, 3, 50, 4, 500))]
        for size, sender, worth in ((1, 0, 0), (20, 7, 1000), (20, 4, 500)):
            self.stays_out(held, thing(6, size, 3, 50, sender, worth))
            self.comes(held, thing(4, size, 3, 50, sender, worth), [1, 1, 5], [4])

    def test_the_order_in_which_they_go(self):
        held = [call("arrive", *thing(n, 5, r, e)) for n, r, e in ((6, 2, 30), (5, 2, 30), (9, 2, 40), (1, 1, 90))]
        self.comes(held, thing(7, 5, 8), [1, 1, 1], [7, 9, 5, 6])
        self.comes(held, thing(7, 10, 8), [1, 2, 6, 1], [7, 9, 5])
        self.comes(held, thing(7, 15, 8), [1, 3, 5, 6, 1], [7, 9])


class New(TakingCase):
    def test_ranges(self):
        for setup in ([], [call("arrive", *thing(1, 15, 3))]):
            for name in TAKING:
                self.ranges_held(setup, name, THING_RANGES, thing(500, 5, 5, 500, 5, 500))

    def test_edges_are_told_back(self):
        for six in (thing(0, 1, 0, 1, 0, 0), thing(999, 50, 9, 100000, 7, 1000)):
            for name, flag in (("arrive", 0), ("promise", 1)):
                self.assertEqual(run(call("room", 50), call(name, *six), call("item", six[0])),
                                 [[0], [1, 0], list(six) + [flag, flag]])

    def test_number_in_the_store(self):
        held = [call("arrive", *thing(4, 3)), call("promise", *thing(5, 3))]
        for name in TAKING:
            self.refused(-6, held, call(name, *thing(4, 3)))
            self.refused(-6, held, call(name, *thing(5, 50, 9, 9, 7)))
            self.told([1, 0], *held, call("drop", 4), call(name, *thing(4, 3)))

    def test_end_is_past(self):
        for name in TAKING:
            self.refused(-7, [call("tick", 9)], call(name, *thing(1, 1, 0, 9)))
            self.refused(-7, [call("tick", 9)], call(name, *thing(1, 1, 0, 1)))
            self.told([1, 0], call("tick", 9), call(name, *thing(1, 1, 0, 10)))
            self.told([1, 0], call(name, *thing(1, 1, 0, 1)))

    def test_forty_in_the_store(self):
        self.assertEqual(run(*FULL), [[0]] + [[1, 0]] * 40)
        for name in TAKING:
            self.refused(-8, FULL, call(name, *thing(500, 1, 9, 100)))
            self.refused(-8, FULL, call(name, *thing(500, 50, 0, 1)))
            self.told([1, 0], *FULL[:-1], call(name, *thing(500, 1, 9, 100)))
            self.told([1, 0], *FULL, call("drop", 0), call(name, *thing(500, 1, 9, 100)))

    def test_forty_held_things_in_their_order(self):
        order = sorted(range(40), key=lambda k: (-(k % 3), -k))
        self.told([40] + order, *FULL, call("items"))

    def test_many_go_at_once(self):
        held = FULL[:-1] + [call("room", 50)]
        order = sorted(range(39), key=lambda k: (-(k % 3), -k))
        self.comes(held, thing(500, 50, 9), [1, 39] + order, [500])

    def test_order_of_refusals(self):
        later = FULL + [call("tick", 5)]
        for name in TAKING:
            for setup in (FULL, later):
                self.refused(-1, setup, call(name, *thing(3, 0, 0, 1)))
                self.refused(-1, setup, call(name, *thing(3, 1, 0, 0)))
                self.refused(-1, setup, call(name, *thing(3, 1, 0, 5, 0, 1001)))
            self.refused(-6, later, call(name, *thing(3, 1, 0, 5)))
            self.refused(-6, FULL, call(name, *thing(3, 1, 0, 100)))
            self.refused(-7, later, call(name, *thing(500, 1, 0, 5)))
            self.refused(-8, later, call(name, *thing(500, 1, 0, 6)))
            self.refused(-6, [call("arrive", *thing(3)), call("tick", 9)], call(name, *thing(3, 1, 0, 9)))
