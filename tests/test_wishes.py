"""[20]: wishes."""

import unittest

from latesums.changes import Change
from latesums.errors import InvalidAsk, InvalidItem, InvalidList, InvalidNumber
from latesums.forms import Form
from latesums.lots import rank
from latesums.wishes import Wish
from tests.samples import (any_values, bad_names, first_bad, good_change, good_form, good_width, lists_within, raised)

TOTAL, PAIRS = Form(1, [(1, ((1,),))]), Form(2, [(1, ((1, 1),))])
TURN, SWAP = Change([[1]], [0], turns=True), Change([[0, 1], [1, 0]], [0, 0])


class Wishes(unittest.TestCase):
    def test_what_a_wish_is_made_of(self):
        for width, asks, changes in [
                (1, [], []), (2, [], []), (1, [("sum", TOTAL)], []), (1, [], [("turn", TURN)]),
                (1, [("b", TOTAL), ("a", TOTAL), ("zzzzzzzz", Form(1, []))], [("b", TURN), ("a", TURN)]),
                (2, [("pairs", PAIRS)], [("pairs", SWAP)])]:
            wish = Wish(width, asks, changes)
            self.assertEqual((wish.width, wish.asks(), wish.changes()), (width, asks, changes))
            self.assertIs(type(wish.asks()), list)
            self.assertTrue(all(type(item) is tuple for item in wish.asks() + wish.changes()))

    def test_asks_and_changes_as_they_were_given(self):
        form = Form(1, [(3, ((2,),)), (1, ())])
        wish = Wish(1, [("a", form)], [("b", TURN)])
        self.assertEqual(wish.asks()[0][1].terms(), [(1, ()), (3, ((2,),))])
        self.assertEqual(wish.changes()[0][1].turns, True)

    def test_longest_and_shortest_names(self):
        for name in ("a", "z", "abcdefgh", "zzzzzzzz"):
            self.assertEqual(Wish(1, [(name, TOTAL)], [(name, TURN)]).asks(), [(name, TOTAL)])


class Equality(unittest.TestCase):
    def test_equal_wishes(self):
        one = Wish(1, [("a", Form(1, [(2, ((1,),)), (-1, ((1,),))]))], [("b", Change([[1]], [0], turns=True))])
        other = Wish(1, [("a", TOTAL)], [("b", TURN)])
        self.assertTrue(one == other)
        self.assertFalse(one != other)

    def test_a_wish_of_which_the_lot_was_asked(self):
        one, other = Wish(1, [("a", TOTAL)], [("b", TURN)]), Wish(1, [("a", TOTAL)], [("b", TURN)])
        rank(one)
        self.assertTrue(one == other and other == one)

    def test_unlike_wishes(self):
        one = Wish(1, [("a", TOTAL), ("b", TOTAL)], [("c", TURN), ("d", TURN)])
        add = Change([[1]], [1])
        for other in (
                Wish(1, [("a", TOTAL)], [("c", TURN), ("d", TURN)]),
                Wish(1, [("a", TOTAL), ("b", TOTAL)], [("c", TURN)]),
                Wish(1, [("b", TOTAL), ("a", TOTAL)], [("c", TURN), ("d", TURN)]),
                Wish(1, [("a", TOTAL), ("b", TOTAL)], [("d", TURN), ("c", TURN)]),
                Wish(1, [("a", TOTAL), ("b", 2 * TOTAL)], [("c", TURN), ("d", TURN)]),
                Wish(1, [("a", TOTAL), ("b", TOTAL)], [("c", TURN), ("d", add)]),
                Wish(1, [("a", TOTAL), ("e", TOTAL)], [("c", TURN), ("d", TURN)]),
                Wish(1, [("a", TOTAL), ("b", TOTAL)], [("c", TURN), ("e", TURN)])):
            self.assertFalse(one == other)
            self.assertTrue(one != other)
        self.assertFalse(Wish(1, [], []) == Wish(2, [], []))
        self.assertFalse(Wish(1, [("a", TOTAL)], []) == Wish(1, [], []))

    def test_not_equal_to_any_other_object(self):
        wish = Wish(1, [("a", TOTAL)], [])
        for value in any_values() + [wish.asks(), (1, [("a", TOTAL)], [])]:
            if type(value) is not Wish:
                self.assertIs(wish == value, False)
                self.assertIs(wish != value, True)


class WrongInputs(unittest.TestCase):
    def check(self, width, asks, changes):
        def call():
            return Wish(width, asks, changes)

        if not good_width(width):
            return raised(self, InvalidNumber, call, "value", width)
        if type(asks) is not list:
            return raised(self, InvalidList, call, "value", asks)
        bad = first_bad(asks, lambda form: good_form(form, width))
        if bad:
            return raised(self, InvalidAsk, call, "value", bad[0])
        if type(changes) is not list:
            return raised(self, InvalidList, call, "value", changes)
        bad = first_bad(changes, lambda change: good_change(change, width))
        if bad:
            return raised(self, InvalidItem, call, "value", bad[0])
        wish = call()
        self.assertEqual((wish.width, wish.asks(), wish.changes()), (width, asks, changes))

    def test_each_argument_alone(self):
        for value in any_values():
            self.check(value, [("a", TOTAL)], [("b", TURN)])
            for width, asks, changes in ((1, [("a", TOTAL)], [("b", TURN)]), (2, [("a", PAIRS)], [("b", SWAP)])):
                self.check(width, value, changes)
                self.check(width, asks, value)

    def test_arguments_together(self):
        widths = [1, 2, 0, 3, True, None, "1", (1,)]
        asks = [[], [("a", TOTAL)], [("a", PAIRS)], [("a", TOTAL), ("a", TOTAL)], [None], (), None, {}, ("a", TOTAL),
                [("a", TURN)], "a"]
        changes = [[], [("a", TURN)], [("a", SWAP)], [("a", TURN), ("a", TURN)], [None], (), None, {}, ("a", TURN),
                   [("a", TOTAL)], "a"]
        for width in widths:
            for ask in asks:
                for change in changes:
                    self.check(width, ask, change)

    def test_items(self):
        for value in any_values():
            for width, form, change in ((1, TOTAL, TURN), (2, PAIRS, SWAP)):
                for item in (value, ("c", value), (value, form), (value, change), (value, form, change), ("c",)):
                    self.check(width, [item], [("a", change)])
                    self.check(width, [("a", form)], [item])
                    self.check(width, [("a", form), item, None], [])
                    self.check(width, [], [("a", change), item, None])

    def test_names(self):
        for name in bad_names():
            self.check(1, [("a", TOTAL), (name, TOTAL)], [])
            self.check(1, [], [("a", TURN), (name, TURN)])

    def test_the_first_item_that_does_not_fit(self):
        again, wrong = ("a", TOTAL), ("b", PAIRS)
        raised(self, InvalidAsk, lambda: Wish(1, [("a", TOTAL), again, wrong], None), "value", again)
        raised(self, InvalidAsk, lambda: Wish(1, [("a", TOTAL), wrong, again], None), "value", wrong)
        again, wrong = ("a", TURN), ("b", SWAP)
        raised(self, InvalidItem, lambda: Wish(1, [], [("a", TURN), again, wrong]), "value", again)
        raised(self, InvalidItem, lambda: Wish(1, [], [("a", TURN), wrong, again]), "value", wrong)

    def test_lists_in_place_of_tuples(self):
        item = ["a", TOTAL]
        raised(self, InvalidAsk, lambda: Wish(1, [item], []), "value", item)
        item = ["a", TURN]
        raised(self, InvalidItem, lambda: Wish(1, [], [item]), "value", item)


class Independence(unittest.TestCase):
    def test_lists_that_are_changed_behind_a_call(self):
        asks, changes = [("a", TOTAL)], [("b", TURN)]
        wish = Wish(1, asks, changes)
        asks.append(None)
        changes.clear()
        self.assertEqual((wish.asks(), wish.changes()), ([("a", TOTAL)], [("b", TURN)]))
        self.assertEqual(rank(wish), 2)

    def test_returned_lists_belong_to_the_caller(self):
        wish = Wish(1, [("a", TOTAL)], [("b", TURN)])
        found = lists_within([wish.asks(), wish.asks(), wish.changes(), wish.changes()])
        self.assertEqual(len(found), len({id(one) for one in found}))
        wish.asks().clear()
        wish.changes().append(None)
        self.assertEqual(wish, Wish(1, [("a", TOTAL)], [("b", TURN)]))

    def test_arguments_stay_as_they_were(self):
        asks, changes = [("a", TOTAL)], [("b", TURN)]
        rank(Wish(1, asks, changes))
        self.assertEqual((asks, changes), ([("a", TOTAL)], [("b", TURN)]))


if __name__ == "__main__":
    unittest.main()
