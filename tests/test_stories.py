"""[41] and [42]: stories, their rows and numbers, and which plans are right."""

import random
import unittest

from latesums.changes import Change
from latesums.errors import InvalidPlan, InvalidStory, InvalidWish, Unfit
from latesums.forms import Form
from latesums.lots import lot, rank
from latesums.plans import Plan, least_plan
from latesums.stories import is_right, numbers_of, row_of, wrong_story
from latesums.wishes import Wish
from tests.oracles import numbers_by_hand, row_by_hand, some_story, some_wish
from tests.samples import any_values, good_cell, raised
from tests.tellers import (fewest_wrong, mixed, parts_of_plan, slightly_other, steps_of, stories_by_steps,
                           with_more_numbers, wrong_asks)

ONE, MANY, TOTAL = Form(1, [(1, ())]), Form(1, [(1, ((0,),))]), Form(1, [(1, ((1,),))])
ADD, TURN = Change([[1]], [3]), Change([[1]], [0], turns=True)
WISH = Wish(1, [("sum", TOTAL)], [("add", ADD)])
JOINS = [[(0, 0, 1)], [(0, 1, 1), (1, 0, 1)], [(0, 2, 1), (2, 0, 1)]]
GOOD = Plan(1, [1, 0, 0], [ONE, MANY, TOTAL], JOINS, [("add", [[1, 0, 0], [0, 1, 0], [0, 3, 1]])], [("sum", [0, 0, 1])])
BAD = Plan(1, [1, 0, 0], [ONE, MANY, TOTAL], JOINS, [("add", [[1, 0, 0], [0, 1, 0], [3, 0, 1]])], [("sum", [0, 0, 1])])
STORY = ("change", "add", ("join", ("cell", (4,)), ("cell", (6,))))
EMPTY = ("empty",)


def good_story(value, wish):
    """Whether a value is a story of a wish, told the deep way."""
    return value == EMPTY and type(value) is tuple or good_tale(value, wish)


def good_tale(value, wish):
    if type(value) is not tuple or not value or type(value[0]) is not str:
        return False
    if value[0] == "cell":
        return len(value) == 2 and good_cell(value[1], wish.width)
    if value[0] == "join":
        return len(value) == 3 and good_tale(value[1], wish) and good_tale(value[2], wish)
    return (value[0] == "change" and len(value) == 3 and type(value[1]) is str
            and value[1] in [name for name, _ in wish.changes()] and good_tale(value[2], wish))


def near_stories():
    """Values that are no stories of a wish of width 1 with the change `add`, though near to it."""
    cell = ("cell", (4,))
    return [(), ("empty",) * 2, ["empty"], "empty", ("cell",), ("cell", 4), ("cell", [4]), ("cell", (4, 5)), ("cell", ()),
            ("cell", (True,)), ("cell", (None,)), ["cell", (4,)], ("cell", (4,), (5,)), ("Cell", (4,)), ("join", cell),
            ("join", cell, cell, cell), ["join", cell, cell], ("join", EMPTY, cell), ("join", cell, EMPTY),
            ("join", EMPTY, EMPTY), ("join", cell, None), ("join", cell, ["cell", (4,)]), ("join", [], cell),
            ("change", "add", EMPTY), ("change", "sum", cell), ("change", "", cell), ("change", None, cell),
            ("change", ["add"], cell), ("change", {}, cell), ("change", "add"), ("change", "add", cell, cell),
            ("change", cell, "add"), ("change", "add", ("cell", (4, 5))), ("change", "add", ("join", cell, EMPTY)),
            ("add", cell), ("change", "add", "cell"), (cell,), (None, cell), (1, (4,)), ({}, (4,)), [cell], (EMPTY,),
            ("change", "ADD", cell), ("change", TOTAL, cell), (TOTAL, cell), ("join", TOTAL, ADD), WISH, GOOD]


class Examples(unittest.TestCase):
    def test_section_7(self):
        self.assertEqual([is_right(GOOD, WISH), len(least_plan(WISH)), numbers_of(GOOD, WISH, STORY), row_of(WISH, STORY)],
                         [True, 3, [1, 2, 16], [(7,), (9,)]])
        self.assertEqual(len(row_of(WISH, wrong_story(BAD, WISH)[0])), 2)
        self.assertEqual(wrong_story(BAD, WISH)[1], "sum")
        self.assertIs(wrong_story(GOOD, WISH), None)
        self.assertIs(is_right(BAD, WISH), False)


class RowsAndNumbers(unittest.TestCase):
    def test_each_kind_of_story(self):
        wish = Wish(1, [], [("add", ADD), ("turn", TURN)])
        pair = ("join", ("cell", (4,)), ("cell", (6,)))
        for story, row in ((EMPTY, []), (("cell", (-4,)), [(-4,)]), (pair, [(4,), (6,)]),
                           (("change", "add", pair), [(7,), (9,)]), (("change", "turn", pair), [(6,), (4,)]),
                           (("change", "turn", ("change", "add", ("join", pair, ("cell", (0,))))), [(3,), (9,), (7,)]),
                           (("join", ("change", "turn", pair), ("change", "add", pair)), [(6,), (4,), (7,), (9,)])):
            self.assertEqual(row_of(wish, story), row)
            self.assertEqual(row_by_hand(wish, story), row)

    def test_numbers_of_the_empty_story_are_those_of_the_plan(self):
        plan = Plan(1, [7, -8], [ONE, TOTAL], [[], [(0, 1, 5)]], [("add", [[1, 2], [3, 4]])], [("sum", [0, 0])])
        self.assertEqual(numbers_of(plan, WISH, EMPTY), [7, -8])
        self.assertEqual(numbers_of(plan, WISH, ("cell", (6,))), [1, 6])
        self.assertEqual(numbers_of(plan, WISH, ("change", "add", ("cell", (6,)))), [13, 27])
        self.assertEqual(numbers_of(plan, WISH, ("join", ("cell", (6,)), ("cell", (4,)))), [0, 20])

    def test_words_of_more_letters_are_worth_nothing_in_a_cell(self):
        lift = Form(1, [(5, ()), (7, ((0,),)), (2, ((3,),)), (9, ((1,), (1,)))])
        plan = Plan(1, [0], [lift], [[(0, 0, 1), (0, 0, -3)]], [], [])
        wish = Wish(1, [], [])
        self.assertEqual(numbers_of(plan, wish, ("cell", (2,))), [28])
        self.assertEqual(numbers_of(plan, wish, ("join", ("cell", (2,)), ("cell", (0,)))), [28 * 12 * -2])

    def test_any_stories(self):
        chance = random.Random(60)
        for _ in range(120):
            wish = some_wish(chance, 5)
            plan = slightly_other(chance, with_more_numbers(chance, least_plan(wish), chance.randint(0, 2)))
            story = some_story(chance, wish, chance.randint(1, 20))
            self.assertEqual(row_of(wish, story), row_by_hand(wish, story))
            self.assertEqual(numbers_of(plan, wish, story), numbers_by_hand(plan, story))

    def test_returned_lists_belong_to_the_caller(self):
        for story in (EMPTY, STORY):
            numbers, row = numbers_of(GOOD, WISH, story), row_of(WISH, story)
            kept = list(numbers), list(row)
            numbers.append(5)
            row.append((5,))
            self.assertEqual((numbers_of(GOOD, WISH, story), row_of(WISH, story)), kept)
        self.assertEqual(GOOD.empty(), [1, 0, 0])

    def test_arguments_by_name(self):
        self.assertEqual(row_of(story=STORY, wish=WISH), [(7,), (9,)])
        self.assertEqual(numbers_of(story=STORY, plan=GOOD, wish=WISH), [1, 2, 16])
        self.assertIs(is_right(wish=WISH, plan=GOOD), True)
        self.assertIs(wrong_story(wish=WISH, plan=GOOD), None)


class Errors(unittest.TestCase):
    def test_values_that_are_no_stories(self):
        for wish, plan in ((WISH, GOOD), (Wish(1, [], []), GOOD), (Wish(2, [], []), Plan(2, [], [], [], [], []))):
            for value in any_values() + near_stories() + [STORY, ("cell", (1, 2)), EMPTY]:
                if good_story(value, wish):
                    self.assertEqual(row_of(wish, value), row_by_hand(wish, value))
                    self.assertEqual(numbers_of(plan, wish, value), numbers_by_hand(plan, value))
                else:
                    raised(self, InvalidStory, lambda: row_of(wish, value), "value", value)
                    raised(self, InvalidStory, lambda: numbers_of(plan, wish, value), "value", value)
        for value in near_stories():
            self.assertFalse(good_story(value, WISH), value)

    def test_values_that_are_no_wishes_and_plans(self):
        for value in any_values() + [STORY, [STORY]]:
            if type(value) is not Wish:
                raised(self, InvalidWish, lambda: row_of(value, None), "value", value)
                for call in (lambda: is_right(GOOD, value), lambda: wrong_story(GOOD, value),
                             lambda: numbers_of(GOOD, value, None)):
                    raised(self, InvalidWish, call, "value", value)
            if type(value) is not Plan:
                for wish in (WISH, None, value):
                    for call in (lambda: is_right(value, wish), lambda: wrong_story(value, wish),
                                 lambda: numbers_of(value, wish, None)):
                        raised(self, InvalidPlan, call, "value", value)

    def test_plans_that_do_not_fit(self):
        square, line = [[1]], [1]
        wish = Wish(1, [("a", ONE), ("b", ONE), ("c", ONE)], [("x", ADD), ("a", ADD), ("y", ADD)])
        for width, changes, asks, name in (
                (2, "xay", "abc", None), (2, "", "", None), (1, "xay", "ab", "c"), (1, "", "b", "a"), (1, "", "", "a"),
                (1, "xy", "cba", "a"), (1, "ay", "abc", "x"), (1, "", "abc", "x"), (1, "xabc", "abc", "y"),
                (1, "xay", "bc", "a"), (1, "ax", "cab", "y")):
            plan = Plan(width, [1], [Form(width, [(1, ())])], [[(0, 0, 1)]], [(each, square) for each in changes],
                        [(each, line) for each in asks])
            for call in (lambda: is_right(plan, wish), lambda: wrong_story(plan, wish),
                         lambda: numbers_of(plan, wish, None), lambda: numbers_of(plan, wish, EMPTY)):
                raised(self, Unfit, call, "name", name)

    def test_more_names_and_names_in_another_order_fit(self):
        width, empty, lift, joins, changes, asks = parts_of_plan(GOOD)
        lose = ("lose", [[0] * 3] * 3)
        plan = Plan(1, empty, lift, joins, [lose] + changes, [("none", [5, 5, 5])] + asks)
        self.assertIs(is_right(plan, WISH), True)
        two = Wish(1, [("a", TOTAL), ("b", MANY)], [("x", ADD), ("y", TURN)])
        plan = least_plan(two)
        width, empty, lift, joins, changes, asks = parts_of_plan(plan)
        self.assertIs(is_right(Plan(1, empty, lift, joins, changes[::-1], asks[::-1]), two), True)
        swapped = [(asks[0][0], asks[1][1]), (asks[1][0], asks[0][1])]
        self.assertIs(is_right(Plan(1, empty, lift, joins, changes, swapped), two), False)


class RightPlans(unittest.TestCase):
    def check_wrong(self, plan, wish, steps=None):
        """Checks that a plan is told wrong by a story of so many steps; returns this story."""
        self.assertIs(is_right(plan, wish), False)
        found = wrong_story(plan, wish)
        self.assertIs(type(found), tuple)
        self.assertTrue(good_story(found[0], wish))
        self.assertIn(found[1], wrong_asks(plan, wish, found[0]))
        if steps is not None:
            self.assertEqual(steps_of(found[0]), steps)
        return found[0]

    def check_right(self, plan, wish):
        self.assertIs(is_right(plan, wish), True)
        self.assertIs(wrong_story(plan, wish), None)

    def test_without_asks(self):
        wish = Wish(1, [], [("add", ADD)])
        self.check_right(Plan(1, [], [], [], [("add", [])], []), wish)
        self.check_right(Plan(1, [5], [TOTAL], [[(0, 0, 7)]], [("add", [[9]])], [("a", [3])]), wish)
        self.check_right(Plan(2, [], [], [], [], []), Wish(2, [], []))

    def test_without_numbers(self):
        plan = Plan(1, [], [], [], [("add", [])], [("sum", [])])
        self.check_wrong(plan, WISH, 1)
        self.check_right(plan, Wish(1, [("sum", Form(1, []))], [("add", ADD)]))
        self.check_wrong(plan, Wish(1, [("sum", ONE)], []), 1)
        pairs = Form(1, [(1, ((0,), (0,)))])
        self.check_wrong(plan, Wish(1, [("sum", pairs)], []), 3)

    def test_without_changes(self):
        plan = Plan(1, [0], [TOTAL], [[]], [], [("sum", [1])])
        self.check_wrong(plan, Wish(1, [("sum", TOTAL)], []), 3)
        plan = Plan(1, [1, 0], [ONE, TOTAL], [[(0, 0, 1)], [(0, 1, 1), (1, 0, 1)]], [], [("sum", [0, 1])])
        self.check_right(plan, Wish(1, [("sum", TOTAL)], []))

    def test_wrong_for_the_row_without_cells_alone(self):
        width, empty, lift, joins, changes, asks = parts_of_plan(GOOD)
        plan = Plan(1, [1, 0, 5], lift, joins, changes, asks)
        self.assertEqual(wrong_story(plan, WISH), (EMPTY, "sum"))
        self.check_right(Plan(1, [5, -5, 0], lift, joins, changes, asks), WISH)

    def test_the_ask_that_is_told_wrongly(self):
        wish = Wish(1, [("a", TOTAL), ("b", ONE), ("c", ONE)], [])
        width, empty, lift, joins, changes, asks = parts_of_plan(least_plan(wish))
        worse = [(name, [2 * factor for factor in line] if name == "b" else line) for name, line in asks]
        self.assertEqual(wrong_story(Plan(1, empty, lift, joins, changes, worse), wish)[1], "b")

    def test_changes_that_the_wish_lacks_do_not_matter(self):
        width, empty, lift, joins, changes, asks = parts_of_plan(GOOD)
        plan = Plan(1, empty, lift, joins, [("other", [[9, 9, 9]] * 3)] + changes, asks + [("other", [1, 2, 3])])
        self.check_right(plan, WISH)
        self.check_wrong(plan, Wish(1, [("sum", TOTAL), ("other", ONE)], [("add", ADD), ("other", TURN)]))

    def test_wrong_only_behind_some_changes(self):
        # The number tells whether a change was done twice: it is right for a change that does nothing, but for that.
        lift, joins = [ONE, Form(1, []), Form(1, [])], [[(0, 0, 1)], [], []]
        plan = Plan(1, [1, 0, 0], lift, joins, [("x", [[1, 0, 0], [1, 0, 0], [0, 1, 0]])], [("a", [1, 0, 1])])
        self.check_wrong(plan, Wish(1, [("a", ONE)], [("x", ADD)]), 3)
        plan = Plan(1, [1, 0, 0], lift, joins, [("x", [[1, 0, 0], [1, 0, 0], [0, 0, 0]])], [("a", [1, 0, 1])])
        self.check_right(plan, Wish(1, [("a", ONE)], [("x", ADD)]))

    def test_a_story_with_very_many_steps(self):
        # Number k is 1 for joins in which each cell is k steps deep, and 0 otherwise.
        for many in (1, 2, 5, 9, 10):
            lift = [ONE] + [Form(1, [])] * (many - 1)
            joins = [[]] + [[(at, at, 1)] for at in range(many - 1)]
            plan = Plan(1, [0] * many, lift, joins, [], [("a", [0] * (many - 1) + [1])])
            wish = Wish(1, [("a", Form(1, []))], [])
            story = self.check_wrong(plan, wish, 2 ** many - 1)
            self.assertEqual(len(row_of(wish, story)), 2 ** (many - 1))
            self.assertEqual(numbers_of(plan, wish, story), [0] * (many - 1) + [1])
            again = mixed(random.Random(61), plan, 12)
            self.check_wrong(again, wish, 2 ** many - 1)

    def test_least_plans_are_right_for_their_wishes(self):
        chance = random.Random(62)
        for _ in range(60):
            wish = some_wish(chance, chance.choice([1, 4, 30]))
            plan = least_plan(wish)
            self.check_right(plan, wish)
            self.check_right(mixed(chance, plan), wish)
            self.check_right(with_more_numbers(chance, plan, 2), wish)
            self.check_right(mixed(chance, with_more_numbers(chance, plan, 1)), wish)

    def test_least_plans_of_other_wishes(self):
        double = Change([[2]], [0])
        one = Wish(1, [("a", TOTAL)], [("x", ADD)])
        other = Wish(1, [("a", TOTAL)], [("x", double)])
        self.check_wrong(least_plan(one), other, 2)
        self.check_wrong(least_plan(other), one, 2)
        more = Wish(1, [("b", Form(1, [(1, ((2,),))])), ("a", TOTAL)], [("y", double), ("x", ADD)])
        self.check_right(least_plan(more), one)

    def test_all_stories_of_fewer_steps(self):
        chance = random.Random(63)
        cells = {1: [(-1,), (0,), (1,)], 2: [(0, 0), (1, 0), (0, 1)]}
        many = 0
        while many < 60:
            wish = some_wish(chance, chance.choice([1, 3]))
            plan = slightly_other(chance, least_plan(wish))
            found = wrong_story(plan, wish)
            self.assertIs(is_right(plan, wish), found is None)
            if found is not None:
                many += 1
                self.check_wrong(plan, wish)
                least = steps_of(found[0])
                levels = stories_by_steps(wish, min(least - 1, 4 if wish.changes() else 6), cells[wish.width])
                for level in levels[:least]:
                    for story in level[:400]:
                        self.assertFalse(wrong_asks(plan, wish, story))
                if least > 1:
                    self.assertFalse(wrong_asks(plan, wish, EMPTY))

    def test_the_fewest_steps_by_hand(self):
        chance = random.Random(64)
        steps = {}
        while len(steps) < 7 or sum(steps.values()) < 60:
            wish = some_wish(chance, chance.choice([1, 3]))
            if rank(wish) > 5:
                continue
            plan = slightly_other(chance, with_more_numbers(chance, least_plan(wish), chance.randint(0, 1)))
            found = wrong_story(plan, wish)
            least = None if found is None else steps_of(found[0])
            self.assertEqual(least, fewest_wrong(plan, wish, lot(wish)))
            steps[least] = steps.get(least, 0) + 1

    def test_right_plans_tell_long_stories(self):
        chance = random.Random(65)
        for _ in range(40):
            wish = some_wish(chance, 3)
            plan = slightly_other(chance, least_plan(wish))
            if is_right(plan, wish):
                for _ in range(5):
                    self.assertFalse(wrong_asks(plan, wish, some_story(chance, wish, chance.randint(1, 25), 3)))

    def test_faults_that_are_multiples_of_great_numbers(self):
        for bits in (61, 64, 127, 128, 257, 521, 1009):
            for number in (2 ** bits - 1, 2 ** bits, 2 ** bits + 1, -(2 ** bits - 1) * (2 ** 127 - 1)):
                width, empty, lift, joins, changes, asks = parts_of_plan(GOOD)
                plan = Plan(1, empty, lift, joins, [("add", [[1, 0, 0], [0, 1, 0], [0, 3, 1 + number]])], asks)
                self.check_wrong(plan, WISH, 2)
                joins[2] = joins[2] + [(1, 1, number)]
                self.check_wrong(Plan(1, empty, lift, joins, changes, asks), WISH, 3)
                # A fault of this number at two cells, and of other ones at three.
                plan = Plan(1, [1, 0, 0, 0, 0], lift + [Form(1, [])] * 2, parts_of_plan(GOOD)[3] + [[(1, 1, 1)], [(3, 1, 1)]],
                            [], [("sum", [0, 0, 1, number, 1])])
                self.check_wrong(plan, Wish(1, [("sum", TOTAL)], []), 3)

    def test_equal_calls_return_equal_results(self):
        chance = random.Random(66)
        for _ in range(30):
            wish = some_wish(chance)
            plan = slightly_other(chance, least_plan(wish))
            again = Wish(wish.width, wish.asks(), wish.changes())
            self.assertEqual(wrong_story(plan, wish), wrong_story(Plan(*parts_of_plan(plan)), again))

    def test_arguments_stay_as_they_were(self):
        is_right(BAD, WISH)
        wrong_story(BAD, WISH)
        self.assertEqual(WISH, Wish(1, [("sum", TOTAL)], [("add", ADD)]))
        self.assertEqual(BAD.changes(), [("add", [[1, 0, 0], [0, 1, 0], [3, 0, 1]])])


if __name__ == "__main__":
    unittest.main()
