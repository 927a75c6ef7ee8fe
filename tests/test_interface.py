"""The one function: its list in, its list out, and the document's examples."""

import unittest

from rankedroom.reading import split_calls
from rankedroom.store import answers
from tests.lines import GREATEST, LEAST, call, join, run, thing


class Examples(unittest.TestCase):
    def test_of_the_document(self):
        self.assertEqual(
            run(call("room", 10), call("arrive", 1, 6, 4, 9, 0, 1), call("arrive", 2, 5, 3, 9, 0, 1),
                call("why", 2, 5, 3, 9, 0, 1), call("arrive", 3, 5, 5, 9, 0, 1), call("items")),
            [[0], [1, 0], [0], [1, 0, 0], [1, 1, 1], [1, 3]])

    def test_as_numbers(self):
        self.assertEqual(answers([0, 10, 3, 1, 6, 4, 9, 0, 1, 12, 13, 1, 6, 2]),
                         [1, 0, 2, 1, 0, 2, 1, 1, 8, 1, 6, 4, 9, 0, 1, 0, 0, 1, -5])
        self.assertEqual(answers([12]), [1, 0])
        self.assertEqual(answers([1, 0, 1, 2, 5, 5, 12]), [1, -1, 1, -1, 1, 0])


class Interface(unittest.TestCase):
    LINE = join([call("room", 30), call("limits", [150] * 10), call("share", 25), call("arrive", *thing(1, 5, 1)),
                 call("would", *thing(2, 30, 9)), call("why", *thing(2, 30, 9)), call("promise", *thing(2, 5, 2)),
                 call("bind", 1, 1), call("drop", 1), call("fulfil", 2), call("cancel", 2), call("limits", [1, 2]),
                 call("room", GREATEST), call("share", LEAST), call("tick", 100), call("items"), call("item", 2),
                 call("used")])

    def test_what_is_handed_in_stays(self):
        line = list(self.LINE)
        answers(line)
        self.assertEqual(line, self.LINE)

    def test_what_is_handed_in_is_not_changed_for_a_while(self):
        class Watched(list):
            def refuse(self, *given):
                raise AssertionError("the list handed in is changed")
            append = extend = insert = pop = remove = clear = sort = reverse = refuse
            __setitem__ = __delitem__ = __iadd__ = __imul__ = refuse
        self.assertEqual(answers(Watched(self.LINE)), answers(self.LINE))

    def test_nothing_is_kept(self):
        first = answers(self.LINE)
        answers(join([call("room", 5), call("limits", [5] * 10), call("share", 5), call("promise", *thing(9, 5))]))
        self.assertEqual(answers(self.LINE), first)
        self.assertEqual(run(call("used"), call("items"), call("why", *thing(1, 20))),
                         [[0, 20, 0, 0] + [0] * 10, [0], [0]])

    def test_what_is_given_back_is_ones_own(self):
        first = answers(self.LINE)
        again = list(first)
        first.clear()
        self.assertEqual(answers(self.LINE), again)

    def test_kinds(self):
        told = answers(self.LINE)
        self.assertIs(type(told), list)
        self.assertEqual({type(number) for number in told}, {int})

    def test_four_hundred_calls(self):
        calls = [call("arrive", *thing(k % 999, 1 + k % 7, k % 10, 1 + k, k % 8, k)) for k in range(399)]
        self.assertEqual(len(run(*calls, call("items"))), 400)


class Reading(unittest.TestCase):
    SHAPES = ((1,), None, (1,), (6,), (6,), (6,), (1,), (2,), (6,), (1,), (1,), (1,), (0,), (1,), (0,), (3,), (1,),
              None, None, None, None, None, None, (1,), (0,), None, (1,), (6,), None, (0,))

    def test_every_call_has_its_place(self):
        for number, shape in enumerate(self.SHAPES):
            for count in (0, 1, 7, 120) if shape is None else shape:
                given = [GREATEST - k for k in range(count)]
                laid = [number] + ([count] if shape is None else []) + given
                self.assertEqual(split_calls(laid + [12] + laid), [(number, given), (12, []), (number, given)])


