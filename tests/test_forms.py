"""[10] to [13]: cells, rows and forms."""

import random
import unittest
from itertools import product

from latesums.changes import Change
from latesums.errors import (InvalidCell, InvalidChange, InvalidForm, InvalidList, InvalidNumber, InvalidRow,
                             InvalidTerm)
from latesums.forms import Form, is_cell, is_row
from tests.samples import (any_values, change_by_hand, good_cell, good_change, good_row, good_term, good_width,
                           raised, some_change_parts, some_row, some_terms, worth_by_hand)


class Example(unittest.TestCase):
    def test_section_3(self):
        many, total, places = Form(1, [(1, ((0,),))]), Form(1, [(1, ((1,),))]), Form(1, [(1, ((0,), (1,)))])
        row = [(5,), (7,), (9,)]
        self.assertEqual(
            [many.at(row), total.at(row), places.at(row), (total * total).at(row), (total * total).terms(),
             places.with_first((4,)).terms()],
            [3, 21, 25, 441, [(1, ((2,),)), (2, ((1,), (1,)))], [(1, ((1,),)), (1, ((0,), (1,)))]])


class CellsAndRows(unittest.TestCase):
    def test_cells(self):
        for value, width, expected in [
                ((1,), 1, True), ((-5,), 1, True), ((10 ** 400,), 1, True), ((1, 2), 2, True), ((0, 0), 2, True),
                ((), 1, False), ((1,), 2, False), ((1, 2), 1, False), ((1, 2, 3), 2, False), ([1], 1, False),
                ((True,), 1, False), ((1, False), 2, False), ((None,), 1, False), (("1",), 1, False), (1, 1, False),
                (((1,),), 1, False), ([(1,)], 1, False)]:
            self.assertIs(is_cell(value, width), expected)

    def test_rows(self):
        for value, width, expected in [
                ([], 1, True), ([], 2, True), ([(1,)], 1, True), ([(1,), (2,)], 1, True), ([(1, 2), (3, 4)], 2, True),
                ([(1,)], 2, False), ([(1,), (1, 2)], 1, False), ([(1, 2), (1,)], 2, False), ((), 1, False),
                (((1,),), 1, False), ([[1]], 1, False), ([1], 1, False), ([(1,), (True,)], 1, False), ((1,), 1, False),
                ({}, 1, False), ("", 1, False), (None, 1, False)]:
            self.assertIs(is_row(value, width), expected)

    def test_any_value(self):
        for value in any_values():
            for width in (1, 2):
                self.assertIs(is_cell(value, width), good_cell(value, width))
                self.assertIs(is_row(value, width), good_row(value, width))

    def test_any_width(self):
        for width in any_values():
            if not good_width(width):
                for value in ((1,), [(1,)], None):
                    raised(self, InvalidNumber, lambda: is_cell(value, width), "value", width)
                    raised(self, InvalidNumber, lambda: is_row(value, width), "value", width)


class Terms(unittest.TestCase):
    def test_terms_are_put_together_in_order(self):
        form = Form(1, [(2, ((1,), (0,))), (3, ((2,),)), (1, ()), (4, ((1,), (0,))), (5, ((0,), (9,))), (-3, ((0,),))])
        self.assertEqual(form.terms(), [(1, ()), (-3, ((0,),)), (3, ((2,),)), (5, ((0,), (9,))), (6, ((1,), (0,)))])
        form = Form(2, [(1, ((1, 0),)), (1, ((0, 2),)), (1, ((0, 0), (0, 0)))])
        self.assertEqual(form.terms(), [(1, ((0, 2),)), (1, ((1, 0),)), (1, ((0, 0), (0, 0)))])

    def test_sums_of_0_are_left_out(self):
        self.assertEqual(Form(1, [(2, ((1,),)), (0, ((2,),)), (-2, ((1,),))]).terms(), [])
        self.assertEqual(Form(1, [(2, ()), (-2, ()), (7, ())]).terms(), [(7, ())])
        self.assertEqual(Form(1, []).terms(), [])

    def test_terms_are_plain(self):
        terms = Form(2, [(1, ((1, 0), (0, 1)))]).terms()
        self.assertIs(type(terms), list)
        self.assertEqual([type(term) for term in terms], [tuple])
        self.assertEqual([type(letters) for _, letters in terms], [tuple])

    def test_width(self):
        self.assertEqual((Form(1, []).width, Form(2, []).width), (1, 2))

    def test_order_is_that_of_the_document(self):
        chance = random.Random(11)
        for _ in range(100):
            terms = Form(2, some_terms(chance, 2, 30, 3)).terms()
            self.assertEqual(terms, sorted(terms, key=lambda term: (len(term[1]), term[1])))
            self.assertEqual(len({letters for _, letters in terms}), len(terms))
            self.assertNotIn(0, [factor for factor, _ in terms])


class Worths(unittest.TestCase):
    def test_no_letter(self):
        self.assertEqual([Form(1, [(7, ())]).at(row) for row in ([], [(3,)], [(3,), (4,)])], [7, 7, 7])

    def test_no_terms(self):
        self.assertEqual(Form(2, []).at([(1, 2)]), 0)

    def test_fewer_cells_than_letters(self):
        form = Form(1, [(5, ((0,), (0,), (0,)))])
        self.assertEqual([form.at([(1,)] * many) for many in range(5)], [0, 0, 0, 5, 20])

    def test_0_to_the_power_of_0(self):
        self.assertEqual(Form(2, [(1, ((0, 0),))]).at([(0, 0), (0, 5)]), 2)
        self.assertEqual(Form(2, [(1, ((0, 1),))]).at([(0, 3), (0, 5)]), 8)

    def test_first_letter_at_the_first_place(self):
        row = [(2,), (3,), (5,)]
        self.assertEqual(Form(1, [(1, ((1,), (2,)))]).at(row), 2 * 9 + 2 * 25 + 3 * 25)
        self.assertEqual(Form(1, [(1, ((2,), (1,)))]).at(row), 4 * 3 + 4 * 5 + 9 * 5)

    def test_by_hand(self):
        chance = random.Random(10)
        for _ in range(300):
            width = chance.randint(1, 2)
            terms = some_terms(chance, width, chance.randint(0, 6), 4)
            row = some_row(chance, width, chance.randint(0, 6))
            self.assertEqual(Form(width, terms).at(row), worth_by_hand(terms, row))


class Equality(unittest.TestCase):
    def test_equal_forms(self):
        one = Form(1, [(2, ((1,),)), (3, ())])
        self.assertTrue(one == Form(1, [(3, ()), (1, ((1,),)), (0, ((5,),)), (1, ((1,),))]))
        self.assertFalse(one != Form(1, [(3, ()), (2, ((1,),))]))
        self.assertTrue(Form(1, []) == Form(1, [(0, ((1,),))]))

    def test_unlike_forms(self):
        one = Form(1, [(2, ((1,),)), (3, ())])
        for terms in ([(2, ((1,),))], [(2, ((1,),)), (4, ())], [(2, ((0,),)), (3, ())], [(2, ((1,), (0,))), (3, ())],
                      []):
            self.assertFalse(one == Form(1, terms))
            self.assertTrue(one != Form(1, terms))

    def test_unlike_widths(self):
        self.assertFalse(Form(1, []) == Form(2, []))
        self.assertFalse(Form(1, [(1, ())]) == Form(2, [(1, ())]))

    def test_not_equal_to_any_other_object(self):
        for form in (Form(1, []), Form(1, [(1, ())])):
            for value in any_values() + [form.terms()]:
                if type(value) is not Form:
                    self.assertIs(form == value, False)
                    self.assertIs(form != value, True)


class Arithmetic(unittest.TestCase):
    def test_sums_and_differences(self):
        one, other = Form(1, [(2, ((1,),)), (3, ())]), Form(1, [(-2, ((1,),)), (5, ((0,), (0,)))])
        self.assertEqual((one + other).terms(), [(3, ()), (5, ((0,), (0,)))])
        self.assertEqual((one - other).terms(), [(3, ()), (4, ((1,),)), (-5, ((0,), (0,)))])
        self.assertEqual((-one).terms(), [(-3, ()), (-2, ((1,),))])
        self.assertEqual((one - one).terms(), [])

    def test_multiples(self):
        one = Form(1, [(2, ((1,),)), (3, ())])
        for many in (4, -1, 10 ** 20, 1):
            self.assertEqual((many * one).terms(), [(3 * many, ()), (2 * many, ((1,),))])
            self.assertEqual(one * many, many * one)
        self.assertEqual((0 * one).terms(), [])
        self.assertEqual((one * 0).terms(), [])

    def test_products(self):
        one = Form(2, [(2, ((1, 0),))])
        other = Form(2, [(3, ((0, 1), (0, 2)))])
        self.assertEqual((one * other).terms(), [
            (6, ((0, 1), (1, 2))), (6, ((1, 1), (0, 2))),
            (6, ((0, 1), (0, 2), (1, 0))), (6, ((0, 1), (1, 0), (0, 2))), (6, ((1, 0), (0, 1), (0, 2)))])
        self.assertEqual(one * other, other * one)
        self.assertEqual(one * Form(2, [(1, ())]), one)
        self.assertEqual(one * Form(2, []), Form(2, []))

    def test_worths(self):
        chance = random.Random(12)
        for _ in range(200):
            width = chance.randint(1, 2)
            one, other = [some_terms(chance, width, chance.randint(0, 4), 3) for _ in range(2)]
            row, number = some_row(chance, width, chance.randint(0, 5)), chance.randint(-3, 3)
            first, second = worth_by_hand(one, row), worth_by_hand(other, row)
            one, other = Form(width, one), Form(width, other)
            self.assertEqual((one + other).at(row), first + second)
            self.assertEqual((one - other).at(row), first - second)
            self.assertEqual((one * other).at(row), first * second)
            self.assertEqual((-one).at(row), -first)
            self.assertEqual((number * one).at(row), number * first)
            self.assertEqual((one * number).at(row), number * first)

    def test_products_of_products(self):
        chance = random.Random(13)
        for _ in range(30):
            one, other, third = [Form(1, some_terms(chance, 1, 2, 2)) for _ in range(3)]
            self.assertEqual((one * other) * third, one * (other * third))
            self.assertEqual(one * (other + third), one * other + one * third)
            self.assertEqual(one * other, other * one)

    def test_results_are_forms_of_this_width(self):
        one = Form(2, [(2, ((1, 0),))])
        for form in (one + one, one - one, one * one, -one, 3 * one, one * 3):
            self.assertIs(type(form), Form)
            self.assertEqual(form.width, 2)

    def test_nothing_changes_a_form(self):
        one, other = Form(1, [(2, ((1,),))]), Form(1, [(3, ((0,),))])
        kept = one
        one += other
        self.assertEqual((one, kept), (Form(1, [(3, ((0,),)), (2, ((1,),))]), Form(1, [(2, ((1,),))])))
        one = kept
        one -= other
        self.assertEqual((one, kept), (Form(1, [(-3, ((0,),)), (2, ((1,),))]), Form(1, [(2, ((1,),))])))
        one = kept
        one *= other
        self.assertEqual((one, kept), (kept * other, Form(1, [(2, ((1,),))])))
        one = kept
        one *= 5
        self.assertEqual((one, kept), (Form(1, [(10, ((1,),))]), Form(1, [(2, ((1,),))])))
        self.assertEqual(other, Form(1, [(3, ((0,),))]))

    def test_unlike_widths(self):
        one, other = Form(1, [(1, ((1,),))]), Form(2, [(1, ((1, 0),))])
        for first, second in ((one, other), (other, one), (Form(1, []), Form(2, [])), (Form(2, []), Form(1, []))):
            raised(self, InvalidForm, lambda: first + second, "value", second)
            raised(self, InvalidForm, lambda: first - second, "value", second)
            raised(self, InvalidForm, lambda: first * second, "value", second)
        self.assertEqual((one, other), (Form(1, [(1, ((1,),))]), Form(2, [(1, ((1, 0),))])))

    def test_unlike_widths_in_place(self):
        one = kept = Form(1, [(1, ((1,),))])
        other = Form(2, [(1, ((1, 0),))])
        with self.assertRaises(InvalidForm) as caught:
            one += other
        self.assertIs(caught.exception.value, other)
        with self.assertRaises(InvalidForm) as caught:
            one -= other
        self.assertIs(caught.exception.value, other)
        with self.assertRaises(InvalidForm) as caught:
            one *= other
        self.assertIs(caught.exception.value, other)
        self.assertIs(one, kept)
        self.assertEqual(one, Form(1, [(1, ((1,),))]))


class CellsPutIn(unittest.TestCase):
    def test_with_first(self):
        form = Form(2, [(3, ((1, 1), (2, 0))), (1, ())])
        self.assertEqual(form.with_first((2, 5)).terms(), [(1, ()), (30, ((2, 0),)), (3, ((1, 1), (2, 0)))])

    def test_with_last(self):
        form = Form(2, [(3, ((1, 1), (2, 0))), (1, ())])
        self.assertEqual(form.with_last((2, 5)).terms(), [(1, ()), (12, ((1, 1),)), (3, ((1, 1), (2, 0)))])

    def test_terms_that_vanish(self):
        form = Form(1, [(1, ((1,),)), (-4, ())])
        self.assertEqual(form.with_first((4,)).terms(), [(1, ((1,),))])
        self.assertEqual(form.with_last((4,)).terms(), [(1, ((1,),))])
        self.assertEqual(form.with_first((0,)), form)

    def test_worths(self):
        chance = random.Random(14)
        for _ in range(200):
            width = chance.randint(1, 2)
            form = Form(width, some_terms(chance, width, chance.randint(0, 5), 3))
            row, cell = some_row(chance, width, chance.randint(0, 5)), some_row(chance, width, 1)[0]
            self.assertEqual(form.with_first(cell).at(row), worth_by_hand(form.terms(), [cell] + row))
            self.assertEqual(form.with_last(cell).at(row), worth_by_hand(form.terms(), row + [cell]))
            self.assertEqual(form.with_first(cell).width, width)


class Changed(unittest.TestCase):
    def test_terms(self):
        form = Form(1, [(1, ((2,),))])
        self.assertEqual(form.changed(Change([[2]], [3])).terms(), [(9, ((0,),)), (12, ((1,),)), (4, ((2,),))])
        form = Form(2, [(1, ((1, 1),))])
        self.assertEqual(form.changed(Change([[1, 1], [1, -1]], [0, 0])).terms(), [(-1, ((0, 2),)), (1, ((2, 0),))])

    def test_turning(self):
        form = Form(1, [(1, ((0,), (1,), (2,)))])
        self.assertEqual(form.changed(Change([[1]], [0], turns=True)).terms(), [(1, ((2,), (1,), (0,)))])

    def test_cells_that_lose_everything(self):
        form = Form(1, [(1, ((1,),)), (2, ((0,), (0,))), (3, ())])
        self.assertEqual(form.changed(Change([[0]], [0])).terms(), [(3, ()), (2, ((0,), (0,)))])
        self.assertEqual(form.changed(Change([[0]], [5])).terms(), [(3, ()), (5, ((0,),)), (2, ((0,), (0,)))])

    def test_worths(self):
        chance = random.Random(15)
        for _ in range(200):
            width = chance.randint(1, 2)
            form = Form(width, some_terms(chance, width, chance.randint(0, 5), 3))
            matrix, offsets, turns = some_change_parts(chance, width)
            row = some_row(chance, width, chance.randint(0, 5))
            changed = form.changed(Change(matrix, offsets, turns=turns))
            self.assertEqual(changed.at(row), worth_by_hand(form.terms(), change_by_hand(matrix, offsets, turns, row)))
            self.assertEqual(changed.width, width)

    def test_one_change_after_another(self):
        chance = random.Random(16)
        for _ in range(50):
            form = Form(2, some_terms(chance, 2, 3, 2))
            parts = [some_change_parts(chance, 2) for _ in range(2)]
            one, other = [Change(matrix, offsets, turns=turns) for matrix, offsets, turns in parts]
            self.assertEqual(form.changed(other).changed(one), form.changed(one.then(other)))


class WrongInputs(unittest.TestCase):
    def test_width_ahead_of_all_else(self):
        for width in any_values():
            if not good_width(width):
                for terms in ([], [(1, ((1,),))], None, (), [None], [(1,)], {}, 3):
                    raised(self, InvalidNumber, lambda: Form(width, terms), "value", width)

    def test_terms_that_are_no_list(self):
        for terms in any_values() + [((1, ()),), ((1, ((1,),)), None)]:
            for width in (1, 2):
                if type(terms) is not list:
                    raised(self, InvalidList, lambda: Form(width, terms), "value", terms)

    def test_any_item(self):
        for width in (1, 2):
            good = (1, ((0,) * width, (2,) * width))
            for item in any_values():
                if good_term(item, width):
                    self.assertIs(type(Form(width, [good, item])), Form)
                else:
                    raised(self, InvalidTerm, lambda: Form(width, [item]), "value", item)
                    raised(self, InvalidTerm, lambda: Form(width, [good, item, good]), "value", item)

    def test_any_coefficient_letters_letter_and_exponent(self):
        for value in any_values():
            for item in ((value, ()), (1, value), (1, (value,)), (1, ((1,), value)), (1, ((value,),)),
                         (1, ((1, 0), value)), (1, ((0, value),)), (1, (), value)):
                for width in (1, 2):
                    if good_term(item, width):
                        self.assertEqual(Form(width, [item]).width, width)
                    else:
                        raised(self, InvalidTerm, lambda: Form(width, [item]), "value", item)

    def test_the_first_item_that_is_no_term(self):
        wrong = [(True, ()), [1, ()], (1, [()]), (1, ((1,),), 3), (1,), (1, ((-1,),)), (1, ((1, 1),)), None]
        for one, other in product(wrong, wrong):
            raised(self, InvalidTerm, lambda: Form(1, [(1, ()), one, other]), "value", one)

    def test_whole_lists(self):
        for terms in any_values():
            if type(terms) is list:
                for width in (1, 2):
                    wrong = [item for item in terms if not good_term(item, width)]
                    if wrong:
                        raised(self, InvalidTerm, lambda: Form(width, terms), "value", wrong[0])
                    else:
                        self.assertEqual(Form(width, terms).at([]), worth_by_hand(terms, []))

    def test_at(self):
        for form in (Form(1, []), Form(1, [(1, ((1,),))]), Form(2, [(1, ((1, 2),))])):
            for value in any_values() + [[(1,), (2, 3)], [(1, 2), (3, 4)], ((1,), (2,))]:
                if good_row(value, form.width):
                    self.assertEqual(form.at(value), worth_by_hand(form.terms(), value))
                else:
                    raised(self, InvalidRow, lambda: form.at(value), "value", value)

    def test_with_first_and_with_last(self):
        for form in (Form(1, []), Form(1, [(1, ((1,),))]), Form(2, [(1, ((1, 2),))])):
            for value in any_values():
                if good_cell(value, form.width):
                    self.assertEqual(form.with_first(value).at([]), worth_by_hand(form.terms(), [value]))
                    self.assertEqual(form.with_last(value).at([]), worth_by_hand(form.terms(), [value]))
                else:
                    raised(self, InvalidCell, lambda: form.with_first(value), "value", value)
                    raised(self, InvalidCell, lambda: form.with_last(value), "value", value)

    def test_changed(self):
        for form in (Form(1, []), Form(1, [(1, ((1,),))]), Form(2, [(1, ((1, 2),))])):
            for value in any_values():
                if good_change(value, form.width):
                    self.assertIs(type(form.changed(value)), Form)
                else:
                    raised(self, InvalidChange, lambda: form.changed(value), "value", value)

    def test_an_error_changes_nothing(self):
        form = Form(1, [(2, ((1,),))])
        raised(self, InvalidRow, lambda: form.at([(1, 2)]))
        raised(self, InvalidCell, lambda: form.with_first((1, 2)))
        raised(self, InvalidCell, lambda: form.with_last(()))
        raised(self, InvalidChange, lambda: form.changed(None))
        self.assertEqual((form.width, form.terms()), (1, [(2, ((1,),))]))


class Independence(unittest.TestCase):
    def test_arguments_may_be_changed_after_the_call(self):
        terms = [(2, ((1,),))]
        form = Form(1, terms)
        terms.append((5, ()))
        self.assertEqual(form.terms(), [(2, ((1,),))])
        terms.clear()
        self.assertEqual(form, Form(1, [(2, ((1,),))]))

    def test_arguments_stay_as_they_were(self):
        terms, row = [(3, ((1,),)), (0, ()), (2, ((0,),)), (3, ((1,),))], [(1,), (2,)]
        form, change = Form(1, terms), Change([[2]], [1], turns=True)
        form.at(row)
        form.changed(change)
        self.assertEqual(terms, [(3, ((1,),)), (0, ()), (2, ((0,),)), (3, ((1,),))])
        self.assertEqual((row, change), ([(1,), (2,)], Change([[2]], [1], turns=True)))

    def test_methods_leave_the_form_as_it_was(self):
        form = Form(2, [(3, ((1, 0), (0, 1))), (1, ())])
        form.with_first((1, 2))
        form.with_last((1, 2))
        form.changed(Change([[1, 2], [3, 4]], [5, 6], turns=True))
        self.assertEqual(form.terms(), [(1, ()), (3, ((1, 0), (0, 1)))])

    def test_returned_lists_belong_to_the_caller(self):
        form = Form(1, [(2, ((1,),))])
        for made in (form, form + form, form * form, -form, 2 * form, form.with_first((1,)), form.with_last((1,)),
                     form.changed(Change([[1]], [1]))):
            before = made.terms()
            self.assertIsNot(made.terms(), before)
            made.terms().append((5, ()))
            made.terms().clear()
            self.assertEqual(made.terms(), before)
        self.assertEqual(form.terms(), [(2, ((1,),))])

    def test_equal_calls_return_equal_results(self):
        results = []
        for _ in range(2):
            form = Form(1, [(2, ((1,),)), (1, ((0,), (1,)))])
            results.append([(form * form).terms(), form.at([(4,), (5,)]), form.changed(Change([[2]], [1])).terms()])
        self.assertEqual(results[0], results[1])


if __name__ == "__main__":
    unittest.main()
