"""[30], [31]: the lot of a wish, and worths."""

import random
import unittest

from latesums.changes import Change
from latesums.errors import InvalidForm, InvalidList, InvalidRow, InvalidWish
from latesums.forms import Form
from latesums.lots import in_lot, lot, rank, worths
from latesums.wishes import Wish
from tests.oracles import FormSpan, make_all_whole, some_wish, span_by_hand
from tests.samples import (any_values, good_form, good_row, lists_within, raised, some_row, some_terms, worth_by_hand)

MANY, TOTAL, SQUARES = [Form(1, [(1, ((exponent,),))]) for exponent in range(3)]
ONE, PLACES = Form(1, [(1, ())]), Form(1, [(1, ((0,), (1,)))])
ADD, DOUBLE, TURN = Change([[1]], [3]), Change([[2]], [0]), Change([[1]], [0], turns=True)


def asked(*forms):
    """The list of asks for forms."""
    return [(name, form) for name, form in zip("abcd", forms)]


def changing(*changes):
    """The list of changes with names."""
    return [(name, change) for name, change in zip("efgh", changes)]


class Example(unittest.TestCase):
    def test_section_6(self):
        one = Wish(1, [("sum", TOTAL)], [("double", DOUBLE)])
        two = Wish(1, [("sq", SQUARES)], [("add", ADD), ("turn", TURN)])
        self.assertEqual(
            [rank(one), rank(two), in_lot(one, MANY), in_lot(two, MANY), in_lot(two, TOTAL), in_lot(two, TOTAL * TOTAL)],
            [2, 4, False, True, True, False])


class LotCase(unittest.TestCase):
    def check_lot(self, wish, many=None, hand=None):
        """Checks all that [30] says of the list that `lot` returns; returns this list."""
        hand = span_by_hand(wish) if hand is None else hand
        forms = lot(wish)
        self.assertIs(type(forms), list)
        self.assertEqual(rank(wish), len(hand.rows))
        self.assertEqual(len(forms), len(hand.rows))
        if many is not None:
            self.assertEqual(len(forms), many)
        span = FormSpan()
        for form in forms:
            self.assertTrue(good_form(form, wish.width))
            self.assertTrue(hand.has(form))
            self.assertIs(in_lot(wish, form), True)
            self.assertTrue(span.add(form), "not independent")
        self.assertTrue(make_all_whole(forms), "combinations by fractions are left out")
        self.span = span
        return forms

    def check_whole(self, form):
        """Checks that a form is a whole combination of the forms of the lot that was checked last."""
        factors = self.span.factors(form)
        self.assertIsNotNone(factors)
        self.assertEqual({factor.denominator for factor in factors} - {1}, set())


class SmallLots(LotCase):
    def check_same(self, wish, forms):
        """Checks that the lot is that of all whole combinations of these independent forms."""
        self.check_lot(wish, len(forms))
        for form in forms:
            self.check_whole(form)
            self.assertIs(in_lot(wish, form), True)

    def test_without_asks(self):
        for changes in ([], changing(ADD, TURN)):
            wish = Wish(1, [], changes)
            self.check_lot(wish, 0)
            self.assertEqual(lot(wish), [])
            self.assertIs(in_lot(wish, Form(1, [])), True)
            self.assertIs(in_lot(wish, ONE), False)
            self.assertIs(in_lot(wish, TOTAL), False)

    def test_forms_without_terms(self):
        wish = Wish(2, asked(Form(2, []), Form(2, [(1, ((1, 0),)), (-1, ((1, 0),))])), changing(
            Change([[1, 2], [3, 4]], [5, 6])))
        self.check_lot(wish, 0)
        self.assertEqual((rank(wish), lot(wish)), (0, []))
        self.assertIs(in_lot(wish, Form(2, [])), True)
        self.assertIs(in_lot(wish, Form(2, [(1, ())])), False)
        self.check_same(Wish(1, asked(Form(1, []), TOTAL), []), [ONE, TOTAL])

    def test_constant_forms(self):
        wish = Wish(1, asked(12 * ONE), changing(TURN, ADD))
        self.check_lot(wish, 1)
        self.assertEqual(lot(wish)[0].terms()[0][0] ** 2, 1)

    def test_without_changes(self):
        self.check_same(Wish(1, asked(TOTAL), []), [ONE, TOTAL])
        self.check_same(Wish(1, asked(PLACES), []), [ONE, MANY, TOTAL, PLACES])
        inner = Form(1, [(1, ((1,), (2,), (3,)))])
        self.check_same(Wish(1, asked(inner), []), [
            ONE, TOTAL, SQUARES, Form(1, [(1, ((3,),))]), Form(1, [(1, ((1,), (2,)))]), Form(1, [(1, ((2,), (3,)))]), inner])

    def test_multiples_are_divided_out(self):
        self.check_same(Wish(1, asked(6 * TOTAL), []), [ONE, TOTAL])
        self.check_same(Wish(1, asked(4 * TOTAL + 6 * MANY), []), [ONE, 2 * TOTAL + 3 * MANY])
        self.check_same(Wish(1, asked(7 * TOTAL), changing(Change([[5]], [10]))), [ONE, MANY, TOTAL])

    def test_each_part_of_a_sum_is_whole_only_together(self):
        wish = Wish(1, asked(TOTAL + MANY, TOTAL - MANY), [])
        self.check_same(wish, [ONE, TOTAL, MANY])
        wish = Wish(1, asked(2 * TOTAL + 3 * MANY + 5 * SQUARES, TOTAL + MANY - SQUARES), [])
        self.check_lot(wish, 3)
        self.assertIs(in_lot(wish, TOTAL), False)
        self.assertIs(in_lot(wish, 8 * TOTAL + 11 * MANY + 13 * SQUARES), True)
        self.assertIs(in_lot(wish, MANY + 7 * SQUARES), True)
        wish = Wish(1, asked(3 * TOTAL + MANY, 3 * SQUARES + MANY), [])
        self.check_lot(wish, 3)
        self.check_whole(TOTAL - SQUARES)
        wish = Wish(1, asked(5 * TOTAL + 2 * MANY, 7 * SQUARES + 3 * MANY), [])
        self.check_lot(wish, 3)
        self.check_whole(15 * TOTAL - 14 * SQUARES)
        self.assertIs(in_lot(wish, 15 * TOTAL - 14 * SQUARES + ONE), True)
        self.assertIs(in_lot(wish, 15 * TOTAL - 14 * SQUARES + MANY), False)

    def test_asks_that_are_combinations_of_one_another(self):
        self.check_same(Wish(1, asked(TOTAL, 5 * TOTAL, TOTAL - 2 * ONE, Form(1, [])), []), [ONE, TOTAL])
        # The third one is half the sum of the first two, the fourth one two thirds of the first.
        wish = Wish(1, asked(3 * TOTAL + MANY, TOTAL + MANY, 2 * TOTAL + MANY), [])
        self.check_same(wish, [ONE, TOTAL, MANY])
        wish = Wish(1, asked(6 * TOTAL + 9 * MANY, 4 * TOTAL + 6 * MANY, 10 * TOTAL + 15 * MANY), [])
        self.check_same(wish, [ONE, 2 * TOTAL + 3 * MANY])
        for form, expected in ((2 * TOTAL + 3 * MANY, True), (TOTAL, False), (4 * TOTAL + 6 * MANY - ONE, True)):
            self.assertIs(in_lot(wish, form), expected)

    def test_turns(self):
        turned = Form(1, [(1, ((1,), (0,)))])
        wish = Wish(1, asked(PLACES), changing(TURN))
        self.check_same(wish, [ONE, MANY, TOTAL, PLACES, turned])
        self.check_same(Wish(1, asked(PLACES + turned), changing(TURN)), [ONE, MANY, TOTAL, PLACES + turned])
        self.assertIs(in_lot(Wish(1, asked(PLACES), []), turned), False)

    def test_offsets(self):
        self.check_same(Wish(1, asked(SQUARES), changing(ADD)), [ONE, MANY, TOTAL, SQUARES])
        self.check_same(Wish(1, asked(SQUARES), changing(DOUBLE)), [ONE, SQUARES])
        self.check_same(Wish(1, asked(SQUARES + TOTAL), changing(DOUBLE)), [ONE, TOTAL, SQUARES])
        self.check_same(Wish(1, asked(SQUARES + TOTAL), []), [ONE, SQUARES + TOTAL])

    def test_changes_that_lose(self):
        first, second = Form(2, [(1, ((1, 0),))]), Form(2, [(1, ((0, 1),))])
        one, many = Form(2, [(1, ())]), Form(2, [(1, ((0, 0),))])
        self.check_same(Wish(2, asked(first), changing(Change([[0, 0], [0, 0]], [0, 0]))), [one, first])
        self.check_same(Wish(2, asked(first), changing(Change([[0, 0], [0, 0]], [4, 0]))), [one, many, first])
        self.check_same(Wish(2, asked(first), changing(Change([[0, 3], [0, 0]], [0, 0]))), [one, first, second])
        self.check_same(Wish(2, asked(second), changing(Change([[0, 3], [0, 0]], [0, 0]))), [one, second])

    def test_swapped_parts(self):
        pair = Form(2, [(1, ((1, 2),))])
        swap = Change([[0, 1], [1, 0]], [0, 0])
        self.check_same(Wish(2, asked(pair), changing(swap)), [Form(2, [(1, ())]), pair, pair.changed(swap)])

    def test_higher_exponents(self):
        wish = Wish(1, asked(Form(1, [(1, ((3,), (3,)))])), changing(ADD))
        # One form for each sum of the exponents of two letters, one for each exponent of one letter, and the constant.
        self.check_lot(wish, 7 + 4 + 1)
        cubic = Form(2, [(1, ((2, 1),))])
        self.check_lot(Wish(2, asked(cubic), changing(Change([[1, 1], [0, 1]], [1, 0]))), 4)
        self.check_lot(Wish(2, asked(cubic), changing(Change([[1, 2], [3, 4]], [5, 6]))), 11)

    def test_names_do_not_matter(self):
        one = Wish(1, [("a", SQUARES), ("b", PLACES)], [("c", ADD)])
        other = Wish(1, [("x", SQUARES), ("y", PLACES)], [("a", ADD)])
        self.assertEqual(rank(one), rank(other))


class AnyLots(LotCase):
    def test_lots_of_any_wishes(self):
        chance = random.Random(30)
        for _ in range(150):
            wish = some_wish(chance, chance.choice([1, 4, 30]))
            hand = span_by_hand(wish)
            self.check_lot(wish, hand=hand)
            self.check_reached(chance, wish)
            for _ in range(5):
                form = Form(wish.width, some_terms(chance, wish.width, chance.randint(0, 2), 1, 3))
                self.assertIs(in_lot(wish, form), hand.has(form))

    def check_reached(self, chance, wish):
        """Checks that forms which are in the lot by its rules are whole combinations of what was returned."""
        forms = [form for _, form in wish.asks()] + [Form(wish.width, [])]
        for _ in range(12):
            one, other = chance.choice(forms), chance.choice(forms)
            cell = some_row(chance, wish.width, 1, 4)[0]
            found = [one + other, one - other, one.with_first(cell), one.with_last(cell), self.divided(one - other)]
            found += [one.changed(change) for _, change in wish.changes()]
            forms.append(chance.choice(found))
        for form in forms:
            self.check_whole(form)
            self.check_whole(self.divided(form))
            self.assertIs(in_lot(wish, form), True)
            self.assertIs(in_lot(wish, self.divided(form)), True)

    def divided(self, form):
        """The form of which this one is the greatest multiple."""
        for number in range(200, 1, -1):
            while form.terms() and all(factor % number == 0 for factor, _ in form.terms()):
                form = Form(form.width, [(factor // number, letters) for factor, letters in form.terms()])
        return form

    def test_factors_of_many_digits(self):
        # Lots are found by remainders of 2 ** 128 + 1, then of 2 ** 256 + 1 and so on. The first one is the product of
        # this divisor and another prime number.
        divisor = 59649589127497217
        self.assertEqual((2 ** 128 + 1) % divisor, 0)
        product = (2 ** 128 + 1) * (2 ** 256 + 1) * (2 ** 512 + 1)
        for number in (divisor, 2 ** 128 + 1, 2 ** 256 + 1, product, -product, 10 ** 300):
            wish = Wish(1, asked(number * TOTAL), [])
            self.check_lot(wish, 2)
            self.assertIs(in_lot(wish, TOTAL), True)
            wish = Wish(1, asked(number * TOTAL + MANY), changing(TURN))
            self.check_lot(wish, 2)
            self.assertIs(in_lot(wish, TOTAL), False)
            wish = Wish(1, asked(number * TOTAL + MANY, TOTAL - MANY, number * SQUARES + 2 * TOTAL), [])
            self.check_lot(wish, 4)

    def test_remainders_that_look_like_other_numbers(self):
        first = Form(2, [(1, ((2, 0),))])
        for number in (2 ** 128 + 6, 2 ** 128 + 1, 2 ** 127, (2 ** 128 + 1) * (2 ** 256 + 1) - 3):
            wish = Wish(2, asked(first), changing(Change([[1, 2 * number], [0, 0]], [0, 0])))
            self.check_lot(wish, 3)
            self.check_whole(Form(2, [(1, ((1, 1),)), (number, ((0, 2),))]))

    def test_equal_wishes_have_equal_lots(self):
        chance = random.Random(31)
        for _ in range(30):
            wish = some_wish(chance)
            again = Wish(wish.width, wish.asks(), [
                (name, Change(change.matrix(), change.offsets(), turns=change.turns)) for name, change in wish.changes()])
            self.assertEqual(lot(wish), lot(again))
            self.assertEqual(lot(wish), lot(wish))


class LotArguments(unittest.TestCase):
    def test_values_that_are_no_wishes(self):
        for value in any_values() + [[("a", TOTAL)], asked(TOTAL)]:
            if type(value) is not Wish:
                raised(self, InvalidWish, lambda: rank(value), "value", value)
                raised(self, InvalidWish, lambda: lot(value), "value", value)
                for form in (TOTAL, None, Form(2, []), value):
                    raised(self, InvalidWish, lambda: in_lot(value, form), "value", value)

    def test_values_that_are_no_forms_of_the_width(self):
        for wish in (Wish(1, asked(TOTAL), []), Wish(2, [], []), Wish(1, [], [])):
            for value in any_values() + [TOTAL.terms(), [TOTAL], (TOTAL,)]:
                if good_form(value, wish.width):
                    self.assertIn(in_lot(wish, value), (True, False))
                else:
                    raised(self, InvalidForm, lambda: in_lot(wish, value), "value", value)

    def test_errors_come_ahead_of_the_result(self):
        # The lot of this wish could not be told in a lifetime.
        wide = Form(2, [(1, tuple((at, 20 - at) for at in range(20)))])
        wish = Wish(2, [("a", wide)], [("b", Change([[1, 2], [3, 4]], [5, 6])), ("c", Change([[0, 1], [1, 2]], [3, 4]))])
        raised(self, InvalidForm, lambda: in_lot(wish, TOTAL), "value", TOTAL)

    def test_returned_lists_belong_to_the_caller(self):
        wish = Wish(1, asked(PLACES), changing(ADD))
        first = lot(wish)
        expected = list(first)
        first.clear()
        self.assertEqual(lot(wish), expected)
        found = lists_within([lot(wish), lot(wish)])
        self.assertEqual(len(found), len({id(one) for one in found}))

    def test_lists_of_terms_that_are_changed_behind_a_call(self):
        terms = [(1, ((1,),))]
        wish = Wish(1, [("a", Form(1, terms))], [])
        terms.append((1, ((0,), (0,))))
        self.assertEqual(rank(wish), 2)
        lot(wish)[0].terms().clear()
        self.assertEqual(sum(len(form.terms()) for form in lot(wish)), 2)

    def test_an_error_changes_nothing(self):
        wish = Wish(1, asked(TOTAL), [])
        raised(self, InvalidForm, lambda: in_lot(wish, None))
        self.assertEqual((wish, rank(wish)), (Wish(1, asked(TOTAL), []), 2))


class Worths(unittest.TestCase):
    def test_worths(self):
        row = [(5,), (7,), (9,)]
        self.assertEqual(worths([MANY, TOTAL, PLACES, ONE, Form(1, [])], row), [3, 21, 25, 1, 0])
        self.assertEqual(worths([TOTAL, TOTAL], row), [21, 21])
        self.assertEqual(worths([MANY, PLACES, 4 * ONE], []), [0, 0, 4])

    def test_no_forms(self):
        self.assertEqual(worths([], []), [])
        self.assertEqual(worths([], [(1,)]), [])
        for row in ([(1, 2)], None, [()], ((1,),)):
            raised(self, InvalidRow, lambda: worths([], row), "value", row)

    def test_by_hand(self):
        chance = random.Random(32)
        for _ in range(150):
            width = chance.randint(1, 2)
            terms = [some_terms(chance, width, chance.randint(0, 5), 4) for _ in range(chance.randint(1, 5))]
            row = some_row(chance, width, chance.randint(0, 6))
            expected = [worth_by_hand(one, row) for one in terms]
            self.assertEqual(worths([Form(width, one) for one in terms], row), expected)

    def test_rows_that_no_ask_tells_apart_have_the_same_worths(self):
        wish = Wish(1, asked(SQUARES + TOTAL), [])
        self.assertEqual(worths(lot(wish), [(1,), (2,)]), worths(lot(wish), [(-2,), (-3,), (0,)]))
        self.assertNotEqual(worths(lot(wish), [(1,), (2,)]), worths(lot(wish), [(2,), (2,)]))

    def check(self, forms, row):
        if type(forms) is not list:
            return raised(self, InvalidList, lambda: worths(forms, row), "value", forms)
        width = getattr(forms[0], "width", None) if forms and type(forms[0]) is Form else 1
        for form in forms:
            if not good_form(form, width):
                return raised(self, InvalidForm, lambda: worths(forms, row), "value", form)
        if not good_row(row, width):
            return raised(self, InvalidRow, lambda: worths(forms, row), "value", row)
        self.assertEqual(worths(forms, row), [worth_by_hand(form.terms(), row) for form in forms])

    def test_wrong_inputs(self):
        pairs = Form(2, [(1, ((1, 1),))])
        for value in any_values():
            for forms in ([], [TOTAL], [pairs], [TOTAL, pairs], None, (TOTAL,)):
                self.check(forms, value)
            for row in ([], [(1,)], [(1, 2)], None):
                self.check(value, row)
                self.check([value], row)
                self.check([TOTAL, value], row)
                self.check([pairs, value, None], row)

    def test_the_first_item_that_does_not_fit(self):
        pairs, other = Form(2, []), Form(2, [(1, ())])
        raised(self, InvalidForm, lambda: worths([TOTAL, pairs, other, None], None), "value", pairs)
        raised(self, InvalidForm, lambda: worths([pairs, other, TOTAL], None), "value", TOTAL)

    def test_arguments_stay_as_they_were(self):
        forms, row = [TOTAL, MANY], [(1,), (2,)]
        worths(forms, row).append(9)
        self.assertEqual((forms, row), ([TOTAL, MANY], [(1,), (2,)]))
        self.assertEqual(worths(forms, row), [3, 2])


if __name__ == "__main__":
    unittest.main()
