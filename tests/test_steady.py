"""[45]: plans whose numbers go by the row alone."""

import random
import unittest

from latesums.changes import Change
from latesums.errors import InvalidPlan, InvalidWish, Unfit
from latesums.forms import Form
from latesums.plans import Plan, least_plan
from latesums.steady import unsteady
from latesums.wishes import Wish
from tests.oracles import numbers_by_hand, row_by_hand, some_story, some_wish
from tests.samples import any_values, raised, some_row
from tests.tellers import mixed, parts_of_plan, slightly_other, stories_by_steps, with_more_numbers
from tests.test_stories import ADD, BAD, GOOD, MANY, ONE, TOTAL, TURN, WISH, good_tale

NONE = Form(1, [])
SQUARES = Form(1, [(1, ((2,),))])


def comb(row):
    """The story that joins the cells of a row one by one."""
    story = ("cell", row[0])
    for cell in row[1:]:
        story = ("join", story, ("cell", cell))
    return story


class Steady(unittest.TestCase):
    def check_unsteady(self, plan, wish):
        """Checks that two stories show that a plan is not steady; returns their row."""
        found = unsteady(plan, wish)
        self.assertIs(type(found), tuple)
        self.assertEqual(len(found), 2)
        for story in found:
            self.assertTrue(good_tale(story, wish))
        row = row_by_hand(wish, found[0])
        self.assertEqual(row, row_by_hand(wish, found[1]))
        self.assertNotEqual(numbers_by_hand(plan, found[0]), numbers_by_hand(plan, found[1]))
        return row

    def check_steady(self, plan, wish):
        self.assertIs(unsteady(plan, wish), None)

    def test_section_7(self):
        self.check_steady(GOOD, WISH)
        self.check_unsteady(BAD, WISH)

    def test_without_numbers(self):
        self.check_steady(Plan(1, [], [], [], [("add", [])], [("sum", [])]), WISH)

    def test_numbers_of_the_row_without_cells_do_not_matter(self):
        width, empty, lift, joins, changes, asks = parts_of_plan(GOOD)
        self.check_steady(Plan(1, [7, 8, 9], lift, joins, changes, asks), WISH)

    def test_steady_and_wrong(self):
        width, empty, lift, joins, changes, asks = parts_of_plan(GOOD)
        self.check_steady(Plan(1, empty, lift, joins, changes, [("sum", [5, 5, 5])]), WISH)
        self.check_steady(Plan(1, [0], [NONE], [[(0, 0, 7)]], [("add", [[9]])], [("sum", [3])]), WISH)

    def test_right_and_unsteady(self):
        width, empty, lift, joins, changes, asks = parts_of_plan(GOOD)
        asks = [("sum", [0, 0, 1, 0])]
        wide = [("add", [[1, 0, 0, 0], [0, 1, 0, 0], [0, 3, 1, 0], [0, 0, 0, 1]])]
        # How many changes there were, how deep the first cell is, and what was left out of a cell that was changed.
        for lift_more, join, line in ((NONE, [(0, 3, 1), (3, 0, 1)], [1, 0, 0, 1]), (NONE, [(3, 0, 1), (0, 0, 1)], [0, 0, 0, 1]),
                                      (SQUARES, [(0, 3, 1), (3, 0, 1)], [0, 0, 0, 1])):
            changes = [("add", wide[0][1][:3] + [line])]
            plan = Plan(1, empty + [0], lift + [lift_more], joins + [join], changes, asks)
            self.check_unsteady(plan, WISH)
            self.check_unsteady(mixed(random.Random(80), plan), WISH)
        plan = Plan(1, empty + [0], lift + [SQUARES], joins + [[(0, 3, 1), (3, 0, 1)]],
                    [("add", wide[0][1][:3] + [[0, 9, 6, 1]])], asks)
        self.check_steady(plan, WISH)

    def test_each_rule_alone(self):
        wish = Wish(1, [], [("x", TURN)])
        first = [[(0, 0, 1)], [(1, 0, 1)]]
        # The first cell: a turn would have to make it the last one.
        plan = Plan(1, [1, 0], [ONE, TOTAL], first, [("x", [[1, 0], [0, 1]])], [])
        self.assertEqual(len(self.check_unsteady(plan, wish)), 2)
        self.check_steady(plan, Wish(1, [], [("x", Change([[1]], [0]))]))
        self.check_unsteady(plan, Wish(1, [], [("x", Change([[1]], [1]))]))
        ends = Plan(1, [1, 0, 0], [ONE, TOTAL, TOTAL], first + [[(0, 2, 1)]],
                    [("x", [[1, 0, 0], [0, 0, 1], [0, 1, 0]])], [])
        self.check_steady(ends, wish)
        self.assertEqual(len(self.check_unsteady(ends, Wish(1, [], [("x", Change([[1]], [0]))]))), 2)
        deep = Plan(1, [1, 0], [ONE, TOTAL], [[(0, 0, 1)], [(1, 0, 2), (0, 1, 1)]], [], [])
        self.assertEqual(len(self.check_unsteady(deep, Wish(1, [], []))), 3)
        cell = Plan(1, [0], [TOTAL], [[]], [("x", [[2]])], [])
        self.assertEqual(len(self.check_unsteady(cell, Wish(1, [], [("x", ADD)]))), 1)
        self.check_steady(cell, Wish(1, [], [("x", Change([[2]], [0], turns=True))]))

    def test_changes_that_the_wish_lacks_do_not_matter(self):
        width, empty, lift, joins, changes, asks = parts_of_plan(GOOD)
        plan = Plan(1, empty, lift, joins, changes + [("other", [[1, 2, 3]] * 3)], asks)
        self.check_steady(plan, WISH)
        self.check_unsteady(plan, Wish(1, [("sum", TOTAL)], [("add", ADD), ("other", ADD)]))

    def test_only_numbers_that_stories_have_matter(self):
        # Joins are told in an unlike way only where the second number is not 0, which it never is.
        plan = Plan(1, [1, 5], [ONE, NONE], [[(0, 0, 1), (1, 1, 3), (1, 0, 7)], [(1, 1, 1), (0, 1, 3)]],
                    [("add", [[1, 8], [0, 4]])], [("sum", [0, 0])])
        self.check_steady(plan, WISH)
        width, empty, lift, joins, changes, asks = parts_of_plan(plan)
        self.check_unsteady(Plan(1, empty, [ONE, TOTAL], joins, changes, asks), WISH)

    def test_constants_and_letters_without_exponents_are_alike_in_a_cell(self):
        lift = [Form(1, [(2, ()), (1, ((0,),)), (5, ((1,), (1,)))])]
        self.check_steady(Plan(1, [0], lift, [[]], [("add", [[1]])], [("sum", [0])]), WISH)

    def test_right_plans_with_as_few_numbers_as_can_be(self):
        chance = random.Random(81)
        many = 0
        while many < 60:
            wish = some_wish(chance, chance.choice([1, 4, 30]))
            plan = least_plan(wish)
            if len(plan) <= 10:
                many += 1
                self.check_steady(plan, wish)
                self.check_steady(mixed(chance, plan), wish)

    def test_any_plans(self):
        chance = random.Random(82)
        kinds = {True: 0, False: 0}
        cells = {1: [(-1,), (0,), (2,)], 2: [(0, 0), (1, 0), (0, 1)]}
        while min(kinds.values()) < 40:
            wish = some_wish(chance, 3)
            plan = slightly_other(chance, with_more_numbers(chance, least_plan(wish), chance.randint(0, 2)))
            if len(plan) > 10:
                continue
            steady = unsteady(plan, wish) is None
            kinds[steady] += 1
            if not steady:
                self.check_unsteady(plan, wish)
                continue
            for level in stories_by_steps(wish, 4, cells[wish.width]):
                for story in chance.sample(level, min(len(level), 20)):
                    row = row_by_hand(wish, story)
                    self.assertEqual(numbers_by_hand(plan, story), numbers_by_hand(plan, comb(row)))
            for story in [some_story(chance, wish, chance.randint(1, 12), 3) for _ in range(10)]:
                row = row_by_hand(wish, story)
                self.assertEqual(numbers_by_hand(plan, story), numbers_by_hand(plan, comb(row)))

    def test_unlike_numbers_that_are_multiples_of_great_numbers(self):
        for bits in (61, 127, 257, 521):
            for number in (2 ** bits - 1, 2 ** bits, (2 ** 127 - 1) * (2 ** bits - 1)):
                width, empty, lift, joins, changes, asks = parts_of_plan(GOOD)
                joins[2] = joins[2] + [(2, 1, number)]
                self.check_unsteady(Plan(1, empty, lift, joins, changes, asks), WISH)
                joins = parts_of_plan(GOOD)[3]
                self.check_unsteady(Plan(1, empty, lift, joins, [("add", [[1, 0, 0], [0, 1, 0], [0, 3 + number, 1]])], asks), WISH)
                changes = [("add", [[1, 0, 0], [number, 1, 0], [0, 3, 1]])]
                self.check_unsteady(Plan(1, empty, lift, joins, changes, asks), WISH)

    def test_rows_and_numbers_of_two_parts(self):
        chance = random.Random(83)
        pair = Form(2, [(1, ((1, 0), (0, 1)))])
        wish = Wish(2, [("a", pair)], [("b", Change([[0, 1], [1, 0]], [0, 0], turns=True))])
        plan = least_plan(wish)
        self.check_steady(plan, wish)
        row = some_row(chance, 2, 5)
        self.assertEqual(numbers_by_hand(plan, comb(row)), numbers_by_hand(plan, ("change", "b", ("change", "b", comb(row)))))
        other = Wish(2, [("a", pair)], [("b", Change([[0, 1], [1, 0]], [0, 0]))])
        self.check_unsteady(plan, other)

    def test_arguments_by_name_and_equal_calls(self):
        self.assertIs(unsteady(wish=WISH, plan=GOOD), None)
        self.assertEqual(unsteady(BAD, WISH), unsteady(Plan(*parts_of_plan(BAD)), Wish(1, [("sum", TOTAL)], [("add", ADD)])))


class Errors(unittest.TestCase):
    def test_values_that_are_no_plans_and_wishes(self):
        for value in any_values():
            if type(value) is not Plan:
                for wish in (WISH, None):
                    raised(self, InvalidPlan, lambda: unsteady(value, wish), "value", value)
            if type(value) is not Wish:
                raised(self, InvalidWish, lambda: unsteady(GOOD, value), "value", value)

    def test_plans_that_do_not_fit(self):
        for wish, name in ((Wish(2, [], []), None), (Wish(1, [("sum", TOTAL), ("b", MANY)], [("c", TURN)]), "b"),
                           (Wish(1, [("sum", TOTAL)], [("add", ADD), ("c", TURN)]), "c")):
            raised(self, Unfit, lambda: unsteady(GOOD, wish), "name", name)


if __name__ == "__main__":
    unittest.main()
