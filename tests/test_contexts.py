"""[50] and [51]: context steps, and rows told apart by the fewest of them."""

import random
import unittest

from latesums.changes import Change
from latesums.contexts import row_behind, told_apart
from latesums.errors import InvalidItem, InvalidList, InvalidRow, InvalidWish
from latesums.forms import Form
from latesums.lots import lot
from latesums.wishes import Wish
from tests.oracles import some_wish
from tests.samples import any_values, good_cell, good_row, lists_within, raised, some_row, worth_by_hand
from tests.tellers import fewest_steps, row_by_steps

ONE, TOTAL, SQUARES = Form(1, [(1, ())]), Form(1, [(1, ((1,),))]), Form(1, [(1, ((2,),))])
PLACES = Form(1, [(1, ((0,), (1,)))])
ADD, DOUBLE, TURN = Change([[1]], [3]), Change([[2]], [0]), Change([[1]], [0], turns=True)
SUMS = Wish(1, [("sum", TOTAL)], [("add", ADD), ("double", DOUBLE), ("turn", TURN)])


def good_step(value, wish):
    if type(value) is not tuple or len(value) != 2 or type(value[0]) is not str:
        return False
    if value[0] == "change":
        return type(value[1]) is str and value[1] in [name for name, _ in wish.changes()]
    return value[0] in ("before", "after") and good_cell(value[1], wish.width)


def near_steps():
    """Values that are no context steps of a wish of width 1 with the change `add`, though near to it."""
    return [(), ("before",), ("before", 5), ("before", [5]), ("before", (5, 6)), ("before", ()), ("before", (True,)),
            ["before", (5,)], ("Before", (5,)), ("before", (5,), (6,)), ("after", None), ("after", (5, 6)), ("after", "add"),
            ("change", "sum"), ("change", (5,)), ("change", None), ("change", ["add"]), ("change", {}), ("change", "add", 1),
            ["change", "add"], ("change",), ("ahead", (5,)), ("", (5,)), (None, (5,)), ((5,), "before"), "add", TOTAL,
            ("change", ADD), ("cell", (5,)), ("empty",), 1, None, [("after", (5,))], ("changed", "add")]


class Examples(unittest.TestCase):
    def test_section_8(self):
        two = Wish(1, [("sum", PLACES)], [])
        self.assertEqual(
            [told_apart(SUMS, [(1,), (2,)], [(3,), (0,)]), told_apart(SUMS, [(3,)], [(1,), (2,)]),
             told_apart(two, [(3,), (3,)], [(6,)])], [None, ([('change', 'add')], 'sum'), ([], 'sum')])
        steps = [("after", (5,)), ("change", "double")]
        self.assertEqual(row_behind(SUMS, [(1,), (2,)], steps), [(2,), (4,), (10,)])


class Rows(unittest.TestCase):
    def test_each_kind_of_step(self):
        row = [(1,), (2,)]
        for steps, expected in (
                ([], row), ([("before", (5,))], [(5,), (1,), (2,)]), ([("after", (5,))], [(1,), (2,), (5,)]),
                ([("change", "turn")], [(2,), (1,)]), ([("change", "add"), ("change", "double")], [(8,), (10,)]),
                ([("change", "double"), ("change", "add")], [(5,), (7,)]),
                ([("before", (5,)), ("change", "turn"), ("after", (6,)), ("before", (7,))], [(7,), (2,), (1,), (5,), (6,)])):
            self.assertEqual(row_behind(SUMS, row, steps), expected)
            self.assertEqual(row_by_steps(SUMS, row, steps), expected)
        self.assertEqual(row_behind(SUMS, [], []), [])
        self.assertEqual(row_behind(SUMS, [], [("change", "add"), ("after", (1,))]), [(1,)])

    def test_any_steps(self):
        chance = random.Random(90)
        for _ in range(100):
            wish = some_wish(chance)
            row, steps = some_row(chance, wish.width, chance.randint(0, 4)), []
            for _ in range(chance.randint(0, 6)):
                cell = some_row(chance, wish.width, 1)[0]
                steps.append(chance.choice([("before", cell), ("after", cell)] + [("change", name) for name, _ in wish.changes()]))
            self.assertEqual(row_behind(wish, row, steps), row_by_steps(wish, row, steps))

    def test_arguments_stay_as_they_were_and_the_row_is_new(self):
        row, steps = [(1,), (2,)], [("after", (5,))]
        row_behind(SUMS, row, steps).append(7)
        self.assertEqual((row, steps), ([(1,), (2,)], [("after", (5,))]))
        for steps in ([], [("change", "turn")]):
            row_behind(SUMS, row, steps).clear()
            self.assertEqual(row, [(1,), (2,)])

    def check(self, wish, row, steps):
        call = lambda: row_behind(wish, row, steps)
        if type(wish) is not Wish:
            return raised(self, InvalidWish, call, "value", wish)
        if not good_row(row, wish.width):
            return raised(self, InvalidRow, call, "value", row)
        if type(steps) is not list:
            return raised(self, InvalidList, call, "value", steps)
        for step in steps:
            if not good_step(step, wish):
                return raised(self, InvalidItem, call, "value", step)
        self.assertEqual(row_behind(wish, row, steps), row_by_steps(wish, row, steps))

    def test_wrong_inputs(self):
        row, steps = [(1,)], [("before", (5,)), ("change", "add")]
        for value in any_values() + near_steps() + steps + [steps]:
            for wish in (SUMS, Wish(2, [], []), None):
                self.check(wish, row, value)
                self.check(wish, value, steps)
                self.check(wish, value, None)
                self.check(wish, [], [value])
                self.check(wish, row, steps + [value])
                self.check(wish, row, [value, None])
            self.check(value, row, steps)
            self.check(value, None, None)
        for step in near_steps():
            self.assertFalse(good_step(step, SUMS), step)


class ToldApart(unittest.TestCase):
    def check_apart(self, wish, one, other, steps=None):
        """Checks what tells two rows apart, which has to have so many steps; returns the steps."""
        found = told_apart(wish, one, other)
        self.assertIs(type(found), tuple)
        self.assertIs(type(found[0]), list)
        for step in found[0]:
            self.assertTrue(good_step(step, wish))
        rows = [row_by_steps(wish, row, found[0]) for row in (one, other)]
        form = dict(wish.asks())[found[1]]
        self.assertNotEqual(worth_by_hand(form.terms(), rows[0]), worth_by_hand(form.terms(), rows[1]))
        if steps is not None:
            self.assertEqual(len(found[0]), steps)
        return found[0]

    def test_rows_that_are_never_told_apart(self):
        self.assertIs(told_apart(SUMS, [(1,), (2,)], [(2,), (1,)]), None)
        self.assertIs(told_apart(SUMS, [], []), None)
        for wish in (Wish(1, [], [("add", ADD)]), Wish(1, [("a", ONE), ("b", Form(1, []))], [("add", ADD)])):
            self.assertIs(told_apart(wish, [(1,)], []), None)
        self.assertIs(told_apart(Wish(1, [("a", TOTAL)], []), [(0,), (0,)], []), None)
        wish = Wish(1, [("a", Form(1, [(1, ((1,), (1,)))]))], [("turn", TURN)])
        self.assertIs(told_apart(wish, [(1,), (0,), (2,)], [(2,), (1,)]), None)

    def test_no_steps(self):
        self.check_apart(SUMS, [(1,)], [(2,)], 0)
        self.check_apart(SUMS, [], [(2,)], 0)
        self.check_apart(Wish(1, [("a", ONE), ("b", SQUARES)], []), [(1,)], [(2,)], 0)

    def test_cells_ahead_and_behind(self):
        wish = Wish(1, [("a", Form(1, [(1, ((1,), (2,)))]))], [])
        self.assertEqual(self.check_apart(wish, [(1,)], [(-1,)], 1)[0][0], "after")
        self.assertEqual(self.check_apart(wish, [(0,), (1,)], [(1,)] * 2 + [(-1,)] * 2, 0), [])
        wish = Wish(1, [("a", Form(1, [(1, ((2,), (1,)))]))], [])
        self.assertEqual(self.check_apart(wish, [(1,)], [(-1,)], 1)[0][0], "before")
        wish = Wish(1, [("a", Form(1, [(1, ((1,), (2,), (3,)))]))], [])
        self.assertEqual([step[0] for step in self.check_apart(wish, [(3,)], [(-3,)], 2)], ["before"] * 2)
        self.check_apart(wish, [(3,)], [], 2)
        three = Wish(1, [("a", Form(1, [(1, ((1,), (1,), (1,)))]))], [])
        self.check_apart(three, [(1,)], [(2,)], 2)
        self.check_apart(three, [(1,), (2,)], [(3,)], 1)

    def test_only_by_a_letter_that_no_small_cell_has(self):
        # What a cell put in ahead brings is 0 for the cells 0, 1 and 2.
        form = Form(1, [(1, ((3,), (1,))), (-3, ((2,), (1,))), (2, ((1,), (1,)))])
        self.check_apart(Wish(1, [("a", form)], []), [(4,)], [(5,)], 1)

    def test_steps_in_a_chain_of_changes(self):
        # Sums of cubes of y + k * x for k = 0, 1 and 2 are the same on both rows, but not for k = 3.
        cubes = Form(2, [(1, ((0, 3),))])
        wish = Wish(2, [("a", cubes)], [("skew", Change([[1, 0], [1, 1]], [0, 0]))])
        one, other = self.rows_by_moments([0, 2, -3, 3])
        self.assertEqual(fewest_steps(wish, one, other), 3)
        self.assertEqual(self.check_apart(wish, one, other, 3), [("change", "skew")] * 3)
        one, other = self.rows_by_moments([0, 0, 0, 3])
        self.check_apart(wish, one, other, 1)
        one, other = self.rows_by_moments([0, -1, 1, 0])
        self.assertEqual(self.check_apart(wish, one, other, 2), [("change", "skew")] * 2)
        one, other = self.rows_by_moments([0, 0, 0, 0])
        self.assertIs(told_apart(wish, one + [(5, 6)], other + [(5, 6)]), None)

    def rows_by_moments(self, sizes):
        """Rows whose sums of y ** 3, x y ** 2, x ** 2 y and x ** 3 differ by some multiple of these."""
        cells = {(1, 0): [0, 0, 0, 1], (0, 1): [1, 0, 0, 0], (1, 1): [1, 1, 1, 1], (1, -1): [-1, 1, -1, 1]}
        # Twice the moments are whole combinations of those of these cells.
        plus, minus = sizes[1] + sizes[2], sizes[1] - sizes[2]
        many = {(1, 1): plus, (1, -1): minus, (0, 1): 2 * sizes[0] - plus + minus, (1, 0): 2 * sizes[3] - plus - minus}
        for at in range(4):
            self.assertEqual(sum(many[cell] * cells[cell][at] for cell in cells), 2 * sizes[at])
        one = [cell for cell in cells for _ in range(many[cell])]
        return one, [cell for cell in cells for _ in range(-many[cell])]

    def test_the_fewest_steps_by_hand(self):
        chance = random.Random(91)
        seen = {}
        while len(seen) < 4 or sum(seen.values()) < 150:
            wish = some_wish(chance, chance.choice([1, 4]))
            one = some_row(chance, wish.width, chance.randint(0, 3), 2)
            other = chance.choice([some_row(chance, wish.width, chance.randint(0, 3), 2), one[::-1], one + one[:1], one[1:]])
            steps = fewest_steps(wish, one, other)
            if steps is None:
                self.assertIs(told_apart(wish, one, other), None)
                self.assertEqual([form.at(one) for form in lot(wish)], [form.at(other) for form in lot(wish)])
            else:
                self.check_apart(wish, one, other, steps)
            seen[steps] = seen.get(steps, 0) + 1

    def test_differences_that_are_multiples_of_great_numbers(self):
        for bits in (127, 257, 1009):
            for number in (2 ** bits - 1, (2 ** 127 - 1) * (2 ** 1009 - 1), 2 ** bits):
                self.check_apart(Wish(1, [("a", TOTAL)], []), [(number,)], [], 0)
                self.check_apart(Wish(1, [("a", number * TOTAL)], []), [(1,)], [], 0)
                # One change tells them apart by this number alone, two of them by others, too.
                wish = Wish(2, [("a", Form(2, [(1, ((1, 0),))]))], [
                    ("b", Change([[0, number], [0, 0]], [0, 0])), ("c", Change([[0, 1], [0, 0]], [0, 0])),
                    ("d", Change([[1, number], [0, 1]], [0, 0]))])
                self.check_apart(wish, [(0, 1)], [(0, 2)], 1)
                wish = Wish(2, [("a", Form(2, [(1, ((2, 0),))]))], [("d", Change([[1, number], [0, 1]], [0, 0]))])
                self.check_apart(wish, [(0, 1)], [(0, 2)], 1)
                # Two cells put in ahead tell them apart as well, but the change is only one step.
                wish = Wish(2, [("a", Form(2, [(1, ((1, 0),))])), ("b", Form(2, [(1, ((1, 0), (1, 0), (0, 1)))]))],
                            [("d", Change([[1, number], [0, 1]], [0, 0]))])
                self.check_apart(wish, [(0, 1)], [(0, 2)], 1)

    def test_equal_calls_return_equal_results(self):
        chance = random.Random(92)
        for _ in range(40):
            wish = some_wish(chance, 3)
            one, other = some_row(chance, wish.width, 2), some_row(chance, wish.width, 2)
            first = told_apart(wish, one, other)
            lot(wish)
            self.assertEqual(told_apart(Wish(wish.width, wish.asks(), wish.changes()), one, other), first)
            self.assertEqual(told_apart(wish, one, other), first)

    def test_lists_belong_to_their_callers(self):
        one, other = [(3,)], [(1,), (2,)]
        found = told_apart(SUMS, one, other)
        self.assertEqual((one, other), ([(3,)], [(1,), (2,)]))
        found[0].append(5)
        self.assertEqual(told_apart(SUMS, one, other), ([("change", "add")], "sum"))
        self.assertEqual(len(lists_within(told_apart(SUMS, one, one[:0]))), 1)

    def test_arguments_by_name(self):
        self.assertEqual(told_apart(other=[], wish=SUMS, one=[(1,)]), ([], "sum"))
        self.assertEqual(row_behind(steps=[("change", "add")], row=[(1,)], wish=SUMS), [(4,)])

    def test_wrong_inputs(self):
        for value in any_values():
            if type(value) is not Wish:
                for row in ([], None, [(1,)], value):
                    raised(self, InvalidWish, lambda: told_apart(value, row, None), "value", value)
            for wish in (SUMS, Wish(2, [], []), Wish(2, [("a", Form(2, [(1, ((1, 1),))]))], [])):
                if not good_row(value, wish.width):
                    for row in ([], None, value, [(1,)]):
                        raised(self, InvalidRow, lambda: told_apart(wish, value, row), "value", value)
                    raised(self, InvalidRow, lambda: told_apart(wish, [], value), "value", value)
                else:
                    self.assertIs(told_apart(wish, value, list(value)), None)


if __name__ == "__main__":
    unittest.main()
