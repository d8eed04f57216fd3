"""[3]: stories, papers, steady plans and contexts at the limits are there within seconds."""

import random
import unittest
from itertools import product

from latesums.changes import Change
from latesums.contexts import alike, apart, loses, row_behind, swaps, told_apart
from latesums.forms import Form
from latesums.lots import lot, rank
from latesums.plans import Plan, least_plan
from latesums.steady import unsteady
from latesums.stories import is_paper, is_right, numbers_of, paper, row_of, wrong_story
from latesums.wishes import Wish
from tests.oracles import row_by_hand, some_story, told_by_hand
from tests.samples import some_row, timed
from tests.tellers import mixed, parts_of_plan, steps_of, wrong_asks

BIG = 10 ** 20 - 1


class LimitCase(unittest.TestCase):
    def setUp(self):
        self.chance = random.Random(110)

    def number(self):
        return self.chance.choice([-1, 1]) * self.chance.randint(1000, 9999)

    def numbers(self, many):
        return [self.number() for _ in range(many)]

    def letters(self, width, most):
        return [letter for letter in product(range(most + 1), repeat=width) if sum(letter) <= most]

    def form(self, width, letters, many):
        words = list(product(letters, repeat=many))
        self.chance.shuffle(words)
        return Form(width, [(self.number(), word) for word in words[:40]])

    def change(self, width, turns=False):
        return Change([self.numbers(width) for _ in range(width)], self.numbers(width), turns=turns)

    def wishes(self):
        """Wishes of ranks up to 30: with few and many changes, short and long words."""
        low, high = self.letters(2, 1), self.letters(2, 3)
        single = [self.change(2), self.change(2, True), Change([[1, 0], [0, 1]], [9999, -9999]), Change([[1, 1], [1, 1]], [0, 0])]
        for asks, changes in (
                ([self.form(2, low, 3)], [self.change(2)]), ([self.form(2, low, 3)], [self.change(2, True)]),
                ([self.form(1, self.letters(1, 2), 3)], [self.change(1)]),
                ([self.form(2, self.letters(2, 2), 2)], [self.change(2)]), ([self.form(2, high[:7], 3)], []),
                ([self.form(2, high, 1) for _ in range(4)], single)):
            yield Wish(asks[0].width, list(zip("abcd", asks)), list(zip("efgh", changes)))


class Plans(LimitCase):
    def test_least_plans_of_high_ranks(self):
        for wish in self.wishes():
            plan = least_plan(wish)
            self.assertLessEqual(len(plan), 30)
            self.assertIs(timed(self, lambda: is_right(plan, wish)), True)
            self.assertIs(timed(self, lambda: wrong_story(plan, wish)), None)
            stories = timed(self, lambda: paper(plan, wish))
            self.assertEqual(len(stories), len(plan))
            self.assertIs(timed(self, lambda: is_paper(plan, wish, stories)), True)
            self.assertIs(timed(self, lambda: is_paper(plan, wish, stories[:-1] + stories[:1])), False)
            if wish.changes():
                many = [some_story(self.chance, wish, 60, 9999) for _ in range(40)]
                self.assertIs(timed(self, lambda: is_paper(plan, wish, many)), True)
                few = many[:len(plan) - 1] + many[:1] * (41 - len(plan))
                self.assertIs(timed(self, lambda: is_paper(plan, wish, few)), False)

    def test_least_plans_with_one_fault(self):
        for wish in self.wishes():
            for kind in range(3):
                width, empty, lift, joins, changes, asks = parts_of_plan(least_plan(wish))
                last = len(empty) - 1
                if kind == 0:
                    joins[last].append((last, last, 1))
                elif kind == 1:
                    joins[last].append((last // 2, last // 3, -1))
                elif changes:
                    changes[0][1][last][last // 2] += 1
                plan = Plan(width, empty, lift, joins, changes, asks)
                found = timed(self, lambda: wrong_story(plan, wish))
                if kind < 2 or changes:
                    self.assertIn(found[1], wrong_asks(plan, wish, found[0]))
                self.assertIs(timed(self, lambda: is_right(plan, wish)), found is None)

    def test_plans_of_ten_numbers(self):
        for wish in self.wishes():
            width, many = wish.width, 10
            lift = [self.form(width, self.letters(width, 3), 1) for _ in range(many)]
            joins = [[(i, j, self.number()) for i in range(many) for j in range(many)] for _ in range(many)]
            changes = [(name, [self.numbers(many) for _ in range(many)]) for name, _ in wish.changes()]
            asks = [(name, self.numbers(many)) for name, _ in wish.asks()]
            plan = Plan(width, self.numbers(many), lift, joins, changes, asks)
            self.assertIs(timed(self, lambda: is_right(plan, wish)), False)
            found = timed(self, lambda: wrong_story(plan, wish))
            self.assertEqual(steps_of(found[0]), 1)
            self.assertIn(found[1], wrong_asks(plan, wish, found[0]))
            self.assertIsNot(timed(self, lambda: unsteady(plan, wish)), None)
            # The same for asks of nothing, which are told rightly.
            plan = Plan(width, plan.empty(), lift, joins, changes, [(name, [0] * many) for name, _ in asks])
            none = Wish(width, [(name, Form(width, [])) for name, _ in asks], wish.changes())
            self.assertIs(timed(self, lambda: is_right(plan, none)), True)
            stories = timed(self, lambda: paper(plan, none))
            self.assertIs(timed(self, lambda: is_paper(plan, none, stories)), True)

    def test_mixed_plans_of_ten_numbers(self):
        for asks, changes in (([Form(1, [(9973, ((1,), (2,))), (8861, ((2,), (2,)))])], [Change([[9901]], [0], turns=True)]),
                              ([self.form(2, self.letters(2, 3)[1:], 1)], [self.change(2)])):
            wish = Wish(asks[0].width, list(zip("abcd", asks)), list(zip("efgh", changes)))
            self.assertLessEqual(rank(wish), 11)
            for times in (10, 40):
                plan = mixed(self.chance, least_plan(wish), times)
                self.assertIs(timed(self, lambda: is_right(plan, wish)), True)
                self.assertIs(timed(self, lambda: unsteady(plan, wish)), None)
                width, empty, lift, joins, matrices, told = parts_of_plan(plan)
                matrices[0][1][0][0] += 1
                plan = Plan(width, empty, lift, joins, matrices, told)
                self.assertIs(timed(self, lambda: is_right(plan, wish)), False)
                self.assertIsNot(timed(self, lambda: unsteady(plan, wish)), None)

    def test_wrong_stories_with_a_thousand_steps(self):
        many = 10
        lift = [Form(1, [(1, ())])] + [Form(1, [])] * (many - 1)
        joins = [[]] + [[(at, at, 1)] for at in range(many - 1)]
        plan = Plan(1, [0] * many, lift, joins, [], [("a", [0] * (many - 1) + [1])])
        wish = Wish(1, [("a", Form(1, []))], [])
        for one in (plan, mixed(self.chance, plan, 30)):
            found = timed(self, lambda: wrong_story(one, wish))
            self.assertEqual(steps_of(found[0]), 1023)
            self.assertEqual(len(timed(self, lambda: row_of(wish, found[0]))), 512)
            numbers = timed(self, lambda: numbers_of(one, wish, found[0]))
            self.assertNotEqual(sum(a * b for a, b in zip(one.asks()[0][1], numbers)), 0)
            silent = Plan(1, *parts_of_plan(one)[1:5], [("a", [0] * many)])
            stories = timed(self, lambda: paper(silent, wish))
            self.assertEqual(sorted(steps_of(story) for story in stories), [2 ** at - 1 for at in range(1, 11)])
            self.assertIs(timed(self, lambda: is_paper(silent, wish, stories)), True)
            self.assertIs(timed(self, lambda: is_paper(silent, wish, stories[:-1] + stories[:1])), False)

    def test_stories_of_60_steps(self):
        for wish in self.wishes():
            plan, story = least_plan(wish), some_story(self.chance, wish, 60, BIG)
            numbers = timed(self, lambda: numbers_of(plan, wish, story))
            row = timed(self, lambda: row_of(wish, story))
            self.assertEqual(row, row_by_hand(wish, story))
            for name, form in wish.asks():
                told = sum(factor * number for factor, number in zip(dict(plan.asks())[name], numbers))
                self.assertEqual(told, form.at(row))
                self.assertEqual(told, told_by_hand(plan, name, story))

    def test_stories_as_deep_as_they_have_steps(self):
        wish = Wish(1, [("a", Form(1, [(1, ((1,),))]))], [("b", Change([[1]], [1], turns=True))])
        one = other = third = ("cell", (0,))
        for _ in range(2000):
            one, other, third = ("change", "b", one), ("join", other, ("cell", (1,))), ("join", ("cell", (1,)), third)
        for story, row in ((one, [(2000,)]), (other, [(0,)] + [(1,)] * 2000), (third, [(1,)] * 2000 + [(0,)])):
            self.assertEqual(timed(self, lambda: row_of(wish, story)), row)
            self.assertEqual(timed(self, lambda: numbers_of(least_plan(wish), wish, story))[-1], 2000)


class Contexts(LimitCase):
    def test_rows_of_300_cells(self):
        for wish in self.wishes():
            long = max(len(letters) for _, form in wish.asks() for _, letters in form.terms()) == 3
            row = some_row(self.chance, wish.width, 60 if long else 300, BIG)
            steps = [("before", row[0]), ("after", row[0])] * 140 + [("change", name) for name, _ in wish.changes()]
            timed(self, lambda: row_behind(wish, row, steps))
            found = timed(self, lambda: told_apart(wish, row, row[:-1] + row[:1]))
            self.assertIsNot(found, None)
            self.assertIs(timed(self, lambda: told_apart(wish, row, list(row))), None)
            timed(self, lambda: told_apart(wish, row, row[1:] + row[:1]))
            timed(self, lambda: told_apart(wish, row, row[::-1]))

    def test_rows_of_few_cells(self):
        for wish in self.wishes():
            least = min(len(letters) for _, form in wish.asks() for _, letters in form.terms())
            cell = some_row(self.chance, wish.width, 1, BIG)[0]
            found = timed(self, lambda: told_apart(wish, [], [cell]))
            self.assertEqual(len(found[0]), least - 1)

    def test_changes(self):
        for wish in self.wishes():
            one, other = self.change(wish.width), self.change(wish.width, True)
            self.assertIs(timed(self, lambda: alike(wish, one, other)), False)
            self.assertEqual(len(timed(self, lambda: apart(wish, one, other))[0]), 1)
            great = Change([[BIG] * wish.width] * wish.width, [BIG] * wish.width)
            self.assertIs(timed(self, lambda: alike(wish, great, great.then(great))), False)
            self.assertIsNot(timed(self, lambda: apart(wish, great, great.then(great))), None)
            timed(self, lambda: swaps(wish))
            for name, change in wish.changes():
                found = timed(self, lambda: loses(wish, name))
                self.assertEqual(found is None, change.matrix() != [[1, 1], [1, 1]])
                if found is not None:
                    forms = lot(wish)
                    self.assertNotEqual([form.at(found[0]) for form in forms], [form.at(found[1]) for form in forms])


if __name__ == "__main__":
    unittest.main()
