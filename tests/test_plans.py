"""[40], and `least_plan` of [43]: plans."""

import random
import unittest

from latesums.changes import Change
from latesums.errors import InvalidAsk, InvalidItem, InvalidList, InvalidNumber, InvalidWish
from latesums.forms import Form
from latesums.lots import rank
from latesums.plans import Plan, least_plan
from latesums.wishes import Wish
from tests.oracles import numbers_by_hand, row_by_hand, some_story, some_wish, told_by_hand
from tests.samples import (any_values, bad_names, first_bad, good_form, good_line, good_width, lists_within, raised,
                           some_row, worth_by_hand)

ONE, MANY, TOTAL = Form(1, [(1, ())]), Form(1, [(1, ((0,),))]), Form(1, [(1, ((1,),))])
PAIRS = Form(2, [(1, ((1, 1),))])
ADD = Change([[1]], [3])


def good_parts():
    """New arguments of the plan of section 7."""
    joins = [[(0, 0, 1)], [(0, 1, 1), (1, 0, 1)], [(0, 2, 1), (2, 0, 1)]]
    return [1, [1, 0, 0], [ONE, MANY, TOTAL], joins, [("add", [[1, 0, 0], [0, 1, 0], [0, 3, 1]])],
            [("sum", [0, 0, 1])]]


def parts_of(plan):
    return [plan.width, plan.empty(), plan.lift(), plan.joins(), plan.changes(), plan.asks()]


def other_parts():
    """Lists of arguments that differ from those of section 7 in one of them, each with its index."""
    longer = good_parts()[3]
    longer[1].append((1, 1, 0))
    turned = good_parts()[3]
    turned[2].reverse()
    add = ("add", [[1, 0, 0], [0, 1, 0], [0, 3, 1]])
    return [(1, [1, 0, 1]), (1, [2, 0, 0]), (2, [ONE, TOTAL, MANY]), (2, [ONE, MANY, 2 * TOTAL]), (3, longer), (3, turned),
            (3, [[], [], []]), (4, []), (4, [add, ("b", add[1])]), (4, [("b", add[1])]), (4, [("add", [[0] * 3] * 3)]),
            (5, []), (5, [("sum", [0, 0, 1]), ("b", [0, 0, 1])]), (5, [("b", [0, 0, 1])]), (5, [("sum", [0, 0, 2])])]


class Plans(unittest.TestCase):
    def test_what_a_plan_is_made_of(self):
        for parts in (
                good_parts(), [1, [], [], [], [], []], [2, [], [], [], [("a", [])], [("a", [])]],
                [2, [7], [PAIRS], [[]], [], [("b", [3]), ("a", [-3])]],
                [1, [10 ** 20, -1], [TOTAL, TOTAL], [[(1, 1, 0), (1, 1, 0)], [(0, 1, -5)]],
                 [("b", [[1, 2], [3, 4]]), ("a", [[0, 0], [0, 0]]), ("zzzzzzzz", [[0, 1], [1, 0]])], []]):
            plan = Plan(*parts)
            self.assertEqual(parts_of(plan), parts)
            self.assertEqual(len(plan), len(parts[1]))
            self.assertEqual([type(part) for part in parts_of(plan)[1:]], [list] * 5)

    def test_equality(self):
        plan = Plan(*good_parts())
        again = good_parts()
        again[2] = [Form(1, form.terms()) for form in again[2]]
        self.assertTrue(plan == Plan(*again))
        self.assertFalse(plan != Plan(*again))
        for at, part in other_parts():
            parts = good_parts()
            parts[at] = part
            self.assertFalse(plan == Plan(*parts))
            self.assertTrue(plan != Plan(*parts))
        self.assertFalse(Plan(1, [], [], [], [], []) == Plan(2, [], [], [], [], []))
        self.assertTrue(Plan(2, [], [], [], [], []) == Plan(2, [], [], [], [], []))

    def test_not_equal_to_any_other_object(self):
        for plan in (Plan(*good_parts()), Plan(1, [], [], [], [], [])):
            for value in any_values() + [good_parts(), tuple(good_parts()), Wish(1, [], [])]:
                if type(value) is not Plan:
                    self.assertIs(plan == value, False)
                    self.assertIs(plan != value, True)


class Independence(unittest.TestCase):
    def test_lists_that_are_changed_behind_a_call(self):
        parts = good_parts()
        plan = Plan(*parts)
        for part in lists_within(parts)[1:]:
            part.append(5)
        self.assertEqual(parts_of(plan), good_parts())
        self.assertEqual(len(plan), 3)
        for part in lists_within(parts)[1:]:
            part.clear()
        self.assertEqual(parts_of(plan), good_parts())

    def test_lists_that_occur_twice_in_arguments(self):
        line = [1]
        square = [line]
        plan = Plan(1, line, [MANY], [[]], [("a", square), ("b", square)], [("a", line), ("b", line)])
        self.check_own_lists(plan)
        line[0] = 9
        self.assertEqual(parts_of(plan), [
            1, [1], [MANY], [[]], [("a", [[1]]), ("b", [[1]])], [("a", [1]), ("b", [1])]])

    def check_own_lists(self, plan):
        """Checks that all lists that a plan returns are unlike objects; returns how many these are."""
        found = lists_within(parts_of(plan) + parts_of(plan))
        self.assertEqual(len(found), len({id(one) for one in found}))
        return len(found)

    def test_returned_lists_belong_to_the_caller(self):
        for plan in (Plan(*good_parts()), least_plan(Wish(1, [("sum", TOTAL)], [("add", ADD)]))):
            kept = Plan(*parts_of(plan))
            self.assertEqual(self.check_own_lists(plan), 2 * (5 + 3 + 4 + 1) + 1)
            for part in lists_within(parts_of(plan))[1:]:
                part.append(5)
            for part in lists_within(parts_of(plan))[1:]:
                part.clear()
            self.assertEqual(plan, kept)
            self.assertEqual(parts_of(plan), parts_of(kept))

    def test_arguments_stay_as_they_were(self):
        parts = good_parts()
        Plan(*parts)
        self.assertEqual(parts, good_parts())


class PlanErrors(unittest.TestCase):
    def good_joins(self, value, many):
        return (type(value) is list and len(value) == many and all(type(line) is list for line in value)
                and all(type(item) is tuple and good_line(list(item), 3) and item[0] in range(many)
                        and item[1] in range(many) for line in value for item in line))

    def good_square(self, value, many):
        return type(value) is list and len(value) == many and all(good_line(line, many) for line in value)

    def expected(self, width, empty, lift, joins, changes, asks):
        """A tuple of the error that has to be raised and of its field, or None."""
        if not good_width(width):
            return InvalidNumber, width
        if type(empty) is not list or not good_line(empty, len(empty)):
            return InvalidList, empty
        many = len(empty)
        if type(lift) is not list or len(lift) != many or not all(good_form(form, width) for form in lift):
            return InvalidList, lift
        if not self.good_joins(joins, many):
            return InvalidList, joins
        if type(changes) is not list:
            return InvalidList, changes
        for bad in first_bad(changes, lambda matrix: self.good_square(matrix, many)):
            return InvalidItem, bad
        if type(asks) is not list:
            return InvalidList, asks
        for bad in first_bad(asks, lambda factors: good_line(factors, many)):
            return InvalidAsk, bad
        return None

    def check(self, *parts):
        expected = self.expected(*parts)
        if expected is None:
            self.assertEqual(parts_of(Plan(*parts)), list(parts))
        else:
            raised(self, expected[0], lambda: Plan(*parts), "value", expected[1])

    def test_each_argument_alone(self):
        for parts in (good_parts(), [2, [1], [PAIRS], [[(0, 0, 1)]], [("a", [[1]])], [("a", [1])]], [1, [], [], [], [], []]):
            for at in range(6):
                for value in any_values():
                    self.check(*parts[:at], value, *parts[at + 1:])

    def test_values_that_are_near_to_fitting(self):
        parts, wide = good_parts(), Form(2, [])
        near = {
            1: [[1, 0, True], (1, 0, 0), [1, 0], [1, 0, 0, 0], [1, 0, "0"]],
            2: [[ONE, MANY], [ONE, MANY, TOTAL, ONE], (ONE, MANY, TOTAL), [ONE, MANY, wide], [ONE, MANY, None], [wide] * 3],
            3: [[[]], [[]] * 4, ([], [], []), [[], [], ()], [[], [], [(0, 0)]], [[], [], [(0, 0, 1, 1)]],
                [[], [], [[0, 0, 1]]], [[], [], [(0, 3, 1)]], [[], [], [(3, 0, 1)]], [[], [], [(0, -1, 1)]],
                [[], [], [(-1, 0, 1)]], [[], [(0, 0, True)], []], [[], [(0, True, 1)], []], [[(False, 0, 1)], [], []],
                [[(0, 0, None)], [], []], [[(0, 0, 1), None], [], []], [[(2, 2, -7), (0, 1, 0)], [], []]],
            4: [[("a", [[0] * 3] * 2)], [("a", [[0] * 3] * 4)], [("a", [[0] * 2] * 3)], [("a", [[0] * 4] * 3)],
                [("a", ([0] * 3, [0] * 3, [0] * 3))], [("a", [(0, 0, 0)] * 3)], [("a", [[0, 0, True]] * 3)],
                [["a", [[0] * 3] * 3]], [("a", [[0] * 3] * 3, 1)], [("a",)], [("a", ADD)], (("a", [[0] * 3] * 3),)],
            5: [[("a", [0, 0])], [("a", [0, 0, 0, 0])], [("a", (0, 0, 0))], [("a", [0, 0, False])], [["a", [0, 0, 0]]],
                [("a", [0, 0, 0], 1)], [("a",)], [("a", TOTAL)], (("a", [0, 0, 0]),)]}
        for at, values in near.items():
            for value in values:
                self.check(*parts[:at], value, *parts[at + 1:])

    def test_arguments_together(self):
        chance = random.Random(40)
        square = [[0, 1], [1, 0]]
        choices = [
            [1, 1, 1, 2, 0, True, None], [[0, 1], [0, 1], [0, 1], [1], [], (0, 1), [0, None], None],
            [[TOTAL, ONE], [TOTAL, ONE], [PAIRS, PAIRS], [TOTAL], [], (TOTAL, ONE), None],
            [[[], [(1, 1, 1)]], [[], []], [[]], [], [[], [(2, 0, 1)]], ([], []), None],
            [[("a", square)], [], [("a", square), ("a", square)], [("a", [[0]])], [("a", [])], (), None, [None]],
            [[("a", [0, 1])], [], [("a", [0, 1]), ("a", [0, 1])], [("a", [0])], [("a", [])], (), None, [None]]]
        kinds = {}
        for _ in range(6000):
            parts = [chance.choice(choice[:3] * chance.choice([0, 0, 3]) + choice) for choice in choices]
            self.check(*parts)
            expected = self.expected(*parts)
            kinds[expected and expected[0]] = True
        self.assertEqual(set(kinds), {None, InvalidNumber, InvalidList, InvalidItem, InvalidAsk})

    def test_names(self):
        square, line = good_parts()[4][0][1], [0, 0, 1]
        for name in bad_names():
            for at, thing in ((4, square), (5, line)):
                parts = good_parts()
                parts[at] = [("a", thing), (name, thing), None]
                self.check(*parts)

    def test_the_first_item_that_does_not_fit(self):
        square, line = good_parts()[4][0][1], [0, 0, 1]
        for at, thing in ((4, square), (5, line)):
            for items in ([("a", thing), ("b", thing), ("a", thing), ("c", None)], [("a", None), ("a", None), ("b", thing)],
                          [("a", thing), ("b", []), ("a", thing)], [("a", thing), ("a", None)]):
                parts = good_parts()
                parts[at] = items
                self.check(*parts)


class LeastPlans(unittest.TestCase):
    def check_plan(self, chance, wish, many=12, steps=12):
        """Checks that the least plan of a wish is what [43] says; returns it."""
        plan = least_plan(wish)
        self.assertIs(type(plan), Plan)
        self.assertEqual((plan.width, len(plan)), (wish.width, rank(wish)))
        self.assertEqual([name for name, _ in plan.asks()], [name for name, _ in wish.asks()])
        self.assertEqual([name for name, _ in plan.changes()], [name for name, _ in wish.changes()])
        self.assertEqual(Plan(*parts_of(plan)), plan)
        stories = [("empty",)] + [some_story(chance, wish, chance.randint(1, steps)) for _ in range(many)]
        for story in stories:
            row = row_by_hand(wish, story)
            for name, form in wish.asks():
                self.assertEqual(told_by_hand(plan, name, story), form.at(row))
        return plan

    def test_section_7(self):
        wish = Wish(1, [("sum", TOTAL)], [("add", ADD)])
        plan = self.check_plan(random.Random(7), wish)
        self.assertEqual(len(plan), 3)
        story = ("change", "add", ("join", ("cell", (4,)), ("cell", (6,))))
        self.assertEqual(told_by_hand(plan, "sum", story), 16)
        self.assertEqual(numbers_by_hand(Plan(*good_parts()), story), [1, 2, 16])

    def test_without_asks_and_without_changes(self):
        chance = random.Random(41)
        self.assertEqual(least_plan(Wish(2, [], [])), Plan(2, [], [], [], [], []))
        self.assertEqual(least_plan(Wish(1, [], [("add", ADD)])), Plan(1, [], [], [], [("add", [])], []))
        self.check_plan(chance, Wish(1, [("sum", TOTAL)], []))

    def test_rank_0(self):
        wish = Wish(2, [("b", Form(2, [])), ("a", Form(2, []))], [("swap", Change([[0, 1], [1, 0]], [0, 0]))])
        plan = self.check_plan(random.Random(42), wish)
        self.assertEqual(plan, Plan(2, [], [], [], [("swap", [])], [("b", []), ("a", [])]))

    def test_rank_1(self):
        wish = Wish(1, [("five", 5 * ONE), ("none", Form(1, []))], [("add", ADD)])
        plan = self.check_plan(random.Random(43), wish)
        self.assertEqual(len(plan), 1)
        self.assertEqual([told_by_hand(plan, "five", ("empty",)), told_by_hand(plan, "none", ("empty",))], [5, 0])

    def test_names_as_the_wish_lists_them(self):
        turn = Change([[1]], [0], turns=True)
        wish = Wish(1, [("z", TOTAL), ("a", MANY), ("m", TOTAL)], [("z", turn), ("b", ADD), ("a", turn)])
        self.check_plan(random.Random(44), wish)

    def test_places_pairs_turns_and_losses(self):
        chance = random.Random(45)
        places, squares = Form(1, [(1, ((0,), (1,)))]), Form(1, [(1, ((2,),))])
        turn, lose = Change([[-1]], [2], turns=True), Change([[0]], [5])
        self.check_plan(chance, Wish(1, [("a", places), ("b", 3 * squares - 2 * places)], [("c", turn), ("d", lose)]))
        spread = MANY * squares - TOTAL * TOTAL
        self.check_plan(chance, Wish(1, [("spread", spread)], [("turn", turn), ("add", ADD)]))
        area = Form(2, [(1, ((1, 0), (0, 1))), (-1, ((0, 1), (1, 0)))])
        changes = [("skew", Change([[1, 2], [0, 1]], [0, 7])), ("swap", Change([[0, 1], [1, 0]], [0, 0], turns=True)),
                   ("flat", Change([[1, 0], [0, 0]], [0, 0]))]
        self.check_plan(chance, Wish(2, [("area", area), ("pairs", PAIRS)], changes))

    def test_combinations_by_fractions(self):
        chance = random.Random(46)
        asks = [("a", 6 * TOTAL + 9 * MANY), ("b", 4 * TOTAL + 6 * MANY), ("c", 2 * TOTAL + 3 * MANY - ONE)]
        self.assertEqual(len(self.check_plan(chance, Wish(1, asks, []))), 2)
        asks = [("a", 5 * TOTAL + 2 * MANY), ("b", Form(1, [(7, ((2,),)), (3, ((0,),))]))]
        self.assertEqual(len(self.check_plan(chance, Wish(1, asks, []))), 3)

    def test_any_wishes(self):
        chance = random.Random(47)
        for _ in range(150):
            self.check_plan(chance, some_wish(chance, chance.choice([1, 4, 30])), 6)

    def test_long_stories(self):
        chance = random.Random(48)
        for _ in range(8):
            self.check_plan(chance, some_wish(chance), 2, 60)

    def test_changes_again_and_again(self):
        wish = Wish(1, [("a", Form(1, [(1, ((1,), (2,)))]))], [("b", Change([[2]], [-1], turns=True)), ("c", ADD)])
        plan, story = least_plan(wish), ("join", ("cell", (2,)), ("cell", (-3,)))
        for name in "bcbbccbcb":
            story = ("join", ("change", name, story), ("cell", (4,)))
        row = row_by_hand(wish, story)
        self.assertEqual(told_by_hand(plan, "a", story), worth_by_hand([(1, ((1,), (2,)))], row))

    def test_equal_calls_return_equal_results(self):
        chance = random.Random(49)
        for _ in range(20):
            wish = some_wish(chance)
            again = Wish(wish.width, [(name, Form(wish.width, form.terms())) for name, form in wish.asks()], wish.changes())
            self.assertEqual(least_plan(wish), least_plan(again))
            self.assertEqual(least_plan(wish), least_plan(wish))

    def test_returned_plans_may_be_passed_again(self):
        chance = random.Random(50)
        plan = least_plan(Wish(1, [("a", Form(1, [(2, ((3,), (3,))), (1, ((1,),))]))], [("add", ADD)]))
        self.assertEqual(Plan(*parts_of(plan)), plan)
        for form in plan.lift():
            self.assertEqual(form.at([(4,)]), worth_by_hand(form.terms(), [(4,)]))
            self.check_plan(chance, Wish(1, [("a", form)], [("add", ADD)]), 3)

    def test_a_wish_stays_as_it_was(self):
        wish = Wish(1, [("sum", TOTAL)], [("add", ADD)])
        least_plan(wish)
        self.assertEqual(wish, Wish(1, [("sum", TOTAL)], [("add", ADD)]))

    def test_values_that_are_no_wishes(self):
        for value in any_values() + [Plan(*good_parts())]:
            if type(value) is not Wish:
                raised(self, InvalidWish, lambda: least_plan(value), "value", value)

    def test_rows_by_other_trees(self):
        chance = random.Random(51)
        wish = some_wish(chance)
        plan, row = least_plan(wish), some_row(chance, wish.width, 6)
        left, right = ("cell", row[0]), ("cell", row[-1])
        for cell in row[1:]:
            left = ("join", left, ("cell", cell))
        for cell in row[-2::-1]:
            right = ("join", ("cell", cell), right)
        self.assertEqual(numbers_by_hand(plan, left), numbers_by_hand(plan, right))


if __name__ == "__main__":
    unittest.main()
