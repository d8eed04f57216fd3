"""[3]: inputs at the limits are answered within seconds, returned forms passed again among them."""

import random
import unittest

from latesums.changes import Change
from latesums.forms import Form, is_row
from tests.samples import some_row, timed, unlike_terms, worth_by_hand

BIG = 10 ** 20 - 1


def plain_worth(terms, row):
    """The worth of terms, each by itself, place by place."""
    worth = 0
    for factor, letters in terms:
        sums = [1] + [0] * len(letters)
        for cell in row:
            for at in range(len(letters), 0, -1):
                power = 1
                for exponent, part in zip(letters[at - 1], cell):
                    power *= part ** exponent
                sums[at] += sums[at - 1] * power
        worth += factor * sums[-1]
    return worth


class Limits(unittest.TestCase):
    def setUp(self):
        self.chance = random.Random(3)

    def form(self, width, many, letters, most=3):
        return Form(width, unlike_terms(self.chance, width, many, letters, most))

    def row(self, width, many):
        return some_row(self.chance, width, many, BIG)

    def test_rows_of_300_cells(self):
        row = self.row(2, 300)
        self.assertIs(timed(self, lambda: is_row(row, 2)), True)
        form = self.form(2, 40, 2)
        self.assertEqual(timed(self, lambda: form.at(row)), plain_worth(form.terms(), row))

    def test_rows_of_60_cells(self):
        form, row = self.form(2, 40, 3), self.row(2, 60)
        self.assertEqual(timed(self, lambda: form.at(row)), plain_worth(form.terms(), row))

    def test_lists_of_300_terms_that_come_to_40(self):
        terms = unlike_terms(self.chance, 2, 40, 3)
        many = (terms * 8)[:300]
        form = timed(self, lambda: Form(2, many))
        self.assertEqual(len(form.terms()), 40)

    def test_product_of_40_terms_with_3_letters(self):
        one, other, row = self.form(2, 40, 3), self.form(2, 40, 3), self.row(2, 60)
        whole = timed(self, lambda: one * other)
        self.assertEqual(timed(self, lambda: whole.at(row)), one.at(row) * other.at(row))
        self.check_long_form(whole, row)

    def check_long_form(self, form, row):
        again = timed(self, lambda: Form(form.width, form.terms()))
        self.assertTrue(timed(self, lambda: form == again))
        self.assertEqual(timed(self, lambda: form - again), Form(form.width, []))
        self.assertEqual(timed(self, lambda: form + again), timed(self, lambda: 2 * form))
        self.assertEqual(timed(self, lambda: -form).terms()[0][0], -form.terms()[0][0])
        first, last = timed(self, lambda: form.with_first(row[0])), timed(self, lambda: form.with_last(row[-1]))
        self.assertEqual(first.at(row[:6]), form.at(row[:1] + row[:6]))
        self.assertEqual(last.at(row[:6]), form.at(row[:6] + row[-1:]))

    def test_product_of_a_returned_form(self):
        long = Form(2, self.form(2, 10, 2).terms()) * Form(2, [(1, ((1, 2), (3, 0))), (BIG, ((0, 0), (0, 3)))])
        long = Form(2, long.terms()[-120:])
        self.assertEqual(max(len(letters) for _, letters in long.terms()), 4)
        self.assertEqual(len(long.terms()), 120)
        short, row = self.form(2, 10, 2), self.row(2, 60)
        for whole in (timed(self, lambda: long * short), timed(self, lambda: short * long)):
            self.assertEqual(timed(self, lambda: whole.at(row[:8])), long.at(row[:8]) * short.at(row[:8]))

    def test_products_with_exponents_without_limit(self):
        form = Form(2, [(1, ((3, 0),)), (1, ((0, 3), (1, 1)))])
        grown = form
        for _ in range(2):
            grown = timed(self, lambda: grown * form)
        self.assertEqual(grown, form * (form * form))
        high = Form(1, [(1, ((10 ** 6,),))])
        self.assertEqual((high * high).terms(), [(1, ((2 * 10 ** 6,),)), (2, ((10 ** 6,), (10 ** 6,)))])

    def test_changed_forms(self):
        change = Change([[BIG, -BIG], [BIG, BIG - 2]], [BIG, -BIG], turns=True)
        row = self.row(2, 60)
        for form in (self.form(2, 40, 3), self.form(2, 40, 2, most=6), self.form(2, 7, 1, most=6)):
            changed = timed(self, lambda: form.changed(change))
            self.assertEqual(timed(self, lambda: changed.at(row)), form.at(change.row(row)))
            self.assertEqual(changed.with_first(row[0]).at(row), form.at(change.row(row[:1] + row)))

    def test_cells_put_in_again_and_again(self):
        form, row = self.form(2, 40, 3), self.row(2, 30)
        put = form
        for cell in row:
            put = timed(self, lambda: put.with_first(cell))
        for cell in row[::-1]:
            put = timed(self, lambda: put.with_last(cell))
        self.assertEqual(put.at([]), form.at(row + row))

    def test_long_returned_forms_at_short_rows(self):
        one, other = self.form(1, 12, 2), self.form(1, 12, 2)
        row = some_row(self.chance, 1, 6)
        self.assertEqual((one * other).at(row), worth_by_hand((one * other).terms(), row))


if __name__ == "__main__":
    unittest.main()
