"""The one function: its list in, its list out, and the document's examples."""

import time
import unittest

from rankedroom.reading import split_calls
from rankedroom.store import answers
from tests.lines import CALL_NAMES, GREATEST, LEAST, RARE, call, comer, join, row, run, split, thing


class Examples(unittest.TestCase):
    LINE = [0, 10,
            18, 18, 1, 6, 4, 9, 0, 1, 2, 5, 3, 9, 0, 1, 3, 5, 5, 9, 0, 1,
            3, 1, 6, 4, 9, 0, 1,
            3, 2, 5, 3, 9, 0, 1,
            5, 2, 5, 3, 9, 0, 1,
            3, 3, 5, 5, 9, 0, 1,
            12,
            15, 2, 5, 1,
            25, 3, 1, 9, 4]

    def test_of_the_document(self):
        line = list(self.LINE)
        told = answers(line)
        self.assertEqual(told, [1, 0,
                                8, 0, 3, 1, 3, 2, 2, 3, 2,
                                2, 1, 0,
                                1, 0,
                                3, 1, 0, 0,
                                3, 1, 1, 1,
                                2, 1, 3,
                                1, 5,
                                7, 3, 1, 1, 5, 1, 4, 1])
        self.assertEqual(line, self.LINE)

    def test_of_the_document_one_by_one(self):
        three = row(thing(1, 6, 4, 9, 0, 1), thing(2, 5, 3, 9, 0, 1), thing(3, 5, 5, 9, 0, 1))
        self.assertEqual(
            run(call("room", 10), call("order", three), call("arrive", 1, 6, 4, 9, 0, 1),
                call("arrive", 2, 5, 3, 9, 0, 1), call("why", 2, 5, 3, 9, 0, 1), call("arrive", 3, 5, 5, 9, 0, 1),
                call("items"), call("greatest", 2, 5, 1), call("fair", [1, 9, 4])),
            [[0], [0, 3, 1, 3, 2, 2, 3, 2], [1, 0], [0], [1, 0, 0], [1, 1, 1], [1, 3], [5], [3, 1, 1, 5, 1, 4, 1]])

    def test_as_numbers(self):
        self.assertEqual(answers([0, 10, 3, 1, 6, 4, 9, 0, 1, 12, 13, 1, 6, 2]),
                         [1, 0, 2, 1, 0, 2, 1, 1, 8, 1, 6, 4, 9, 0, 1, 0, 0, 1, -5])
        self.assertEqual(answers([12]), [1, 0])
        self.assertEqual(answers([1, 0, 1, 2, 5, 5, 12]), [1, -1, 1, -1, 1, 0])


THREE = row(thing(1, 16, 4, 9, 0, 1), thing(2, 15, 3, 9, 0, 1), thing(3, 15, 5, 9, 0, 1))
COMERS = row(comer(1, 1, 16, 4, 9, 0, 1), comer(2, 2, 15, 3, 9, 0, 1), comer(9, 3, 15, 5, 19, 0, 1))


class Interface(unittest.TestCase):
    LINE = join([call("room", 30), call("limits", [150] * 10), call("share", 25), call("arrive", *thing(1, 5, 1)),
                 call("would", *thing(2, 30, 9)), call("why", *thing(2, 30, 9)), call("promise", *thing(2, 5, 2)),
                 call("bind", 1, 1), call("drop", 1), call("fulfil", 2), call("cancel", 2), call("limits", [1, 2]),
                 call("room", GREATEST), call("share", LEAST), call("tick", 100), call("items"), call("item", 2),
                 call("used"), call("arrive", *thing(3, 5, 1, 200, 1, 8)), call("greatest", 3, 150, 1),
                 call("goes", 2), call("kept", THREE), call("order", THREE), call("greedy", THREE),
                 call("best", THREE), call("online", COMERS), call("known", COMERS), call("lasts", 300),
                 call("senders"), call("fair", [60, 7, 50]), call("sure", 4), call("cheapest", *thing(4, 23, 9, 900)),
                 call("ends", THREE), call("ends", [LEAST] * 5), call("clear"), call("used")])

    def test_what_is_handed_in_stays(self):
        line = list(self.LINE)
        answers(line)
        self.assertEqual(line, self.LINE)

    def test_what_is_handed_in_is_not_changed_for_a_while(self):
        class Watched(list):
            def refuse(self, *given):
                raise AssertionError("the list handed in is changed")
            append = extend = insert = pop = remove = clear = sort = reverse = refuse
            __setitem__ = __delitem__ = __iadd__ = __imul__ = refuse
        self.assertEqual(answers(Watched(self.LINE)), answers(self.LINE))

    def test_nothing_is_kept(self):
        first = answers(self.LINE)
        answers(join([call("room", 5), call("limits", [5] * 10), call("share", 5), call("promise", *thing(9, 5))]))
        self.assertEqual(answers(self.LINE), first)
        self.assertEqual(run(call("used"), call("items"), call("why", *thing(1, 20))),
                         [[0, 20, 0, 0] + [0] * 10, [0], [0]])

    def test_what_is_given_back_is_ones_own(self):
        first = answers(self.LINE)
        again = list(first)
        first.clear()
        self.assertEqual(answers(self.LINE), again)

    def test_kinds(self):
        told = answers(self.LINE)
        self.assertIs(type(told), list)
        self.assertEqual({type(number) for number in told}, {int})

    def test_four_hundred_calls(self):
        calls = [call("arrive", *thing(k % 999, 1 + k % 7, k % 10, 1 + k, k % 8, k)) for k in range(399)]
        self.assertEqual(len(run(*calls, call("items"))), 400)


class Reading(unittest.TestCase):
    SHAPES = ((1,), None, (1,), (6,), (6,), (6,), (1,), (2,), (6,), (1,), (1,), (1,), (0,), (1,), (0,), (3,), (1,),
              None, None, None, None, None, None, (1,), (0,), None, (1,), (6,), None, (0,))

    def test_every_call_has_its_place(self):
        for number, shape in enumerate(self.SHAPES):
            for count in (0, 1, 7, 120) if shape is None else shape:
                given = [GREATEST - k for k in range(count)]
                laid = [number] + ([count] if shape is None else []) + given
                self.assertEqual(split_calls(laid + [12] + laid), [(number, given), (12, []), (number, given)])


class LongLines(unittest.TestCase):
    """Lines as long as they may be, of what takes longest."""

    SECONDS = 20
    TEN = [thing(k, 3 + k % 3, 9 - k, 50 + k % 4, k % 8, 9 - k) for k in range(10)]
    FIVE = [thing(k, 3 + k, k, 50, k % 8, k) for k in range(5)]
    TWENTY = [thing(k, 1 + k % 6, k * 7 % 10, 50 + k % 3, k % 8, k) for k in range(20)]

    def ends_in_time(self, calls):
        calls = list(calls)
        self.assertLessEqual(len(join(calls)), 16000)
        self.assertLessEqual(sum(CALL_NAMES[one[0]] in RARE for one in calls), 20)
        calls += [call("items")] * (400 - len(calls))
        line = join(calls)
        before = time.perf_counter()
        told = answers(line)
        self.assertLess(time.perf_counter() - before, self.SECONDS)
        self.assertEqual(len(split(told)), 400)
        self.assertLess(len(told), 1000000)
        self.assertLess(max(len(answer) for answer in split(told)), 400)
        return split(told)

    def test_best(self):
        for room in (10, 30, 200):
            told = self.ends_in_time([call("room", room)] + [call("best", row(*self.TEN))] * 20)
            self.assertGreater(told[20][0], 0)

    def test_known(self):
        for room in (10, 30, 200):
            comers = [(k * 5,) + one for k, one in enumerate(self.TEN)]
            told = self.ends_in_time([call("room", room)] + [call("known", row(*comers))] * 20)
            self.assertGreater(told[20][0], 0)

    def test_order_and_ends(self):
        for room in (5, 12, 200):
            self.ends_in_time([call("room", room)] + [call("order", row(*self.FIVE)),
                                                      call("ends", row(*self.FIVE))] * 10)

    def test_cheapest(self):
        held = [call("room", 51)] + [call("promise", *thing(k, 1)) for k in range(27)]
        held += [call("arrive", *thing(100 + k, 2, 1, 50 + k, k % 8, k)) for k in range(12)]
        for size in (1, 12, 24):
            told = self.ends_in_time(held + [call("cheapest", *thing(900, size, 9))] * 20)
            self.assertEqual(told[59][0], 1)
            self.assertEqual(told[59][2], (size + 1) // 2)

    def test_kept_greedy_and_online(self):
        comers = row(*[(k,) + one for k, one in enumerate(self.TEN)])
        for name, numbers in (("kept", row(*self.TWENTY)), ("greedy", row(*self.TWENTY)), ("online", comers)):
            for room in (10, 40, 200):
                count = min(399, 15000 // (len(numbers) + 2))
                self.ends_in_time([call("room", room)] + [call(name, numbers)] * count)

    def test_a_full_store(self):
        held = [call("room", 200)] + [call("arrive", *thing(k, 5, k % 10, 50, k % 8, k)) for k in range(40)]
        ones = [call("greatest", 5, 90, 1), call("goes", 200), call("lasts", 100000), call("senders")]
        told = self.ends_in_time(held + ones * 89)
        self.assertEqual(len(told[42]), 41)

    def test_all_together(self):
        comers = row(*[(k * 5,) + one for k, one in enumerate(self.TEN)])
        held = [call("room", 60)] + [call("arrive", *thing(100 + k, 5, 1, 50, k % 8, k)) for k in range(12)]
        rare = [call("best", row(*self.TEN)), call("known", comers), call("cheapest", *thing(900, 50, 9)),
                call("order", row(*self.FIVE)), call("ends", row(*self.FIVE))]
        self.ends_in_time(held + rare * 4 + [call("kept", row(*self.TWENTY))] * 90)
