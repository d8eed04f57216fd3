"""[3]: lots, plans and worths at the limits are there within seconds, with returned forms and changes passed again."""

import random
import unittest
from itertools import product

from latesums.changes import Change
from latesums.forms import Form
from latesums.lots import in_lot, lot, rank, worths
from latesums.plans import Plan, least_plan
from latesums.wishes import Wish
from tests.oracles import make_all_whole, row_by_hand, some_story, told_by_hand
from tests.samples import some_row, timed, unlike_terms

BIG = 10 ** 20 - 1


class Limits(unittest.TestCase):
    def setUp(self):
        self.chance = random.Random(33)

    def number(self):
        return self.chance.choice([-1, 1]) * self.chance.randint(1000, 9999)

    def letters(self, width, most, least=0):
        """All letters with exponents between these in sum."""
        return [letter for letter in product(range(most + 1), repeat=width) if least <= sum(letter) <= most]

    def form(self, width, letters, many):
        """A form with up to 40 terms, all with so many of these letters."""
        words = list(product(letters, repeat=many))
        self.chance.shuffle(words)
        return Form(width, [(self.number(), word) for word in words[:40]])

    def change(self, width, turns=False, offsets=True):
        matrix = [[self.number() for _ in range(width)] for _ in range(width)]
        return Change(matrix, [self.number() if offsets else 0 for _ in range(width)], turns=turns)

    def check(self, asks, changes, many, whole=True):
        """Checks the lot and the least plan of a wish of this rank; returns the wish."""
        wish = Wish(asks[0].width, list(zip("abcd", asks)), list(zip("efgh", changes)))
        self.assertEqual(timed(self, lambda: rank(wish)), many)
        self.assertLessEqual(many, 30)
        forms = timed(self, lambda: lot(wish))
        self.assertEqual(len(forms), many)
        if whole:
            self.assertTrue(make_all_whole(forms))
        self.check_members(wish, forms)
        plan = timed(self, lambda: least_plan(wish))
        self.assertEqual(len(plan), many)
        for steps in (1, 8, 25):
            self.check_told(wish, plan, some_story(self.chance, wish, steps, 9999))
        return wish

    def check_members(self, wish, forms):
        cell = some_row(self.chance, wish.width, 1, 9999)[0]
        for form in [form for _, form in wish.asks()] + forms[-2:]:
            self.assertIs(timed(self, lambda: in_lot(wish, form)), True)
            self.assertIs(in_lot(wish, form.with_first(cell).with_last(cell)), True)
            unlike = form + Form(wish.width, [(1, ((7,) * wish.width,))])
            self.assertIs(in_lot(wish, unlike), False)
            if len(form.terms()) <= 40:
                for _, change in wish.changes():
                    self.assertIs(in_lot(wish, form.changed(change)), True)
        row = some_row(self.chance, wish.width, 60, BIG)
        found = timed(self, lambda: worths(forms, row))
        self.assertEqual((found[0], found[-1]), (forms[0].at(row), forms[-1].at(row)))

    def check_told(self, wish, plan, story):
        row = row_by_hand(wish, story)
        for name, form in wish.asks():
            self.assertEqual(told_by_hand(plan, name, story), form.at(row))

    def test_three_letters_of_two_parts(self):
        low = self.letters(2, 1)
        self.check([self.form(2, low, 3)], [self.change(2)], 23)
        self.check([self.form(2, low, 3)], [self.change(2, True)], 30)

    def test_three_letters_of_one_part(self):
        self.check([self.form(1, self.letters(1, 2), 3)], [self.change(1)], 20)
        self.check([self.form(1, self.letters(1, 3), 3)], [Change([[self.number()]], [0])], 30)

    def test_two_letters(self):
        self.check([self.form(2, self.letters(2, 2), 2)], [self.change(2)], 22)
        self.check([self.form(2, self.letters(2, 3, 3), 2)], [self.change(2, False, False)] * 4, 12)

    def test_one_letter_with_four_changes(self):
        high = self.letters(2, 6)
        changes = [self.change(2), self.change(2, True), Change([[1, 0], [0, 1]], [9999, -9999])]
        asks = [self.form(2, high, 1) for _ in range(4)]
        self.check(asks, changes + [Change([[1, 1], [1, 1]], [0, 0])], 29)

    def test_returned_forms_with_high_exponents(self):
        form = self.form(2, self.letters(2, 6, 6), 2)
        self.assertEqual(len(form.terms()), 40)
        self.check([form], [self.change(2, False, False)], 21)

    def test_products_of_many_letters(self):
        cubes = [(self.chance.randint(1, 20), letter) for letter in ((3, 0), (1, 2), (0, 3))]
        words = [((one[0] * two[0] * three[0]), (one[1], two[1], three[1])) for one in cubes for two in cubes for three in cubes]
        for turns in (False, True):
            change = Change([[1, 0], [0, 1]], [9973, -9967], turns=turns)
            self.check([Form(2, words)], [change, change.then(change)], 22, False)

    def test_pairs_of_high_letters(self):
        highs = [(self.chance.randint(1, 90), letter) for letter in ((6, 0), (1, 5), (0, 6), (3, 3), (2, 4), (4, 1))]
        form = Form(2, [(one[0] * two[0], (one[1], two[1])) for one in highs for two in highs])
        self.check([form], [Change([[1, 0], [0, 1]], [9973, -9967])], 21, False)

    def test_many_terms_without_changes(self):
        letters = self.letters(2, 3)
        self.check([self.form(2, letters[:8], 3)], [], 26)
        self.check([self.form(2, letters[:4], 3) for _ in range(4)], [], 25)

    def test_four_asks_and_four_changes(self):
        low = self.letters(1, 1)
        turn = Change([[1]], [0], turns=True)
        asks = [self.form(1, low, 3), self.form(1, low, 2), self.form(1, [(2,)], 1), self.form(1, [(3,)], 1)]
        self.check(asks, [self.change(1), turn, self.change(1), Change([[0]], [9999])], 17)
        lines = self.letters(2, 1)
        changes = [self.change(2), self.change(2, True), Change([[1, 0], [0, 0]], [0, 0]), Change([[0, 1], [1, 0]], [0, 0])]
        asks = [self.form(2, lines, 2), self.form(2, self.letters(2, 3), 1), self.form(2, lines, 1), self.form(2, lines, 0)]
        self.check(asks, changes, 20)

    def test_returned_changes_with_long_numbers(self):
        change = self.change(2)
        done = change
        for _ in range(20):
            done = done.then(change)
        self.check([self.form(2, self.letters(2, 1), 3)], [done], 23)
        self.check([self.form(2, self.letters(2, 6), 1)], [done, change], 29)

    def test_returned_forms_with_long_numbers(self):
        change = self.change(2)
        form = self.form(2, self.letters(2, 2), 2)
        wish = self.check([form], [change], 22)
        long = [one for one in lot(wish) if len(one.terms()) <= 40][-4:]
        self.assertEqual(len(long), 4)
        again = Wish(2, list(zip("abcd", long)), [("e", change)])
        self.assertLessEqual(timed(self, lambda: rank(again)), 22)
        for one in timed(self, lambda: lot(again)):
            self.assertIs(in_lot(wish, one), True)

    def test_long_forms_that_are_asked_for(self):
        wish = self.check([self.form(2, self.letters(2, 2), 2)], [self.change(2)], 22)
        one, other = [Form(2, unlike_terms(self.chance, 2, 40, 3)) for _ in range(2)]
        whole = one * other
        self.assertIs(timed(self, lambda: in_lot(wish, whole)), False)
        self.assertIs(timed(self, lambda: in_lot(wish, whole - whole + lot(wish)[-1])), True)

    def test_worths_of_300_forms(self):
        forms = [Form(2, unlike_terms(self.chance, 2, 40, 2)) for _ in range(300)]
        row = some_row(self.chance, 2, 300, BIG)
        found = timed(self, lambda: worths(forms, row))
        self.assertEqual((len(found), found[0], found[299]), (300, forms[0].at(row), forms[299].at(row)))
        forms = [Form(2, unlike_terms(self.chance, 2, 40, 2, 6)) for _ in range(300)]
        self.assertEqual(timed(self, lambda: worths(forms, row))[7], forms[7].at(row))
        forms, row = [Form(2, unlike_terms(self.chance, 2, 40, 3)) for _ in range(300)], row[:60]
        self.assertEqual(timed(self, lambda: worths(forms, row))[9], forms[9].at(row))

    def test_worths_of_a_product(self):
        one, other = [Form(2, unlike_terms(self.chance, 2, 40, 3)) for _ in range(2)]
        row = some_row(self.chance, 2, 60, BIG)
        whole = one * other
        self.assertEqual(timed(self, lambda: worths([whole], row)), [one.at(row) * other.at(row)])

    def test_plans_with_many_numbers(self):
        for many, terms in ((10, 40), (30, 10)):
            numbers = [BIG] * many
            lift = [Form(2, unlike_terms(self.chance, 2, terms, 3)) for _ in range(many)]
            joins = [[(i, j, BIG - j) for i in range(many) for j in range(many)] for _ in range(many)]
            changes = [(name, [list(numbers) for _ in range(many)]) for name in "abcd"]
            asks = [(name, list(numbers)) for name in "abcd"]
            plan = timed(self, lambda: Plan(2, numbers, lift, joins, changes, asks))
            self.assertTrue(timed(self, lambda: plan == Plan(2, numbers, lift, plan.joins(), plan.changes(), asks)))
            self.assertEqual(timed(self, plan.joins), joins)

    def test_wishes_with_long_numbers(self):
        forms = [Form(2, unlike_terms(self.chance, 2, 40, 3)) for _ in range(4)]
        changes = [Change([[BIG, 1], [2, BIG]], [BIG, -BIG], turns=True) for _ in range(4)]
        wish = timed(self, lambda: Wish(2, list(zip("abcd", forms)), list(zip("efgh", changes))))
        self.assertTrue(timed(self, lambda: wish == Wish(2, wish.asks(), wish.changes())))


if __name__ == "__main__":
    unittest.main()
