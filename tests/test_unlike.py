"""[52] and [53]: changes that are alike, that may change places, and that lose something."""

import random
import unittest
from itertools import product

from latesums.changes import Change
from latesums.contexts import alike, apart, loses, swaps, told_apart
from latesums.errors import InvalidChange, InvalidWish, UnknownName
from latesums.forms import Form
from latesums.lots import lot
from latesums.wishes import Wish
from tests.oracles import FormSpan, some_wish
from tests.samples import any_values, bad_names, good_change, good_row, lists_within, raised, some_change_parts, some_row
from tests.tellers import row_by_steps
from tests.test_contexts import ADD, DOUBLE, PLACES, SQUARES, SUMS, TOTAL, TURN, good_step

SAME = Change([[1]], [0])
LINE = Form(2, [(1, ((1, 0),))])
PAIRS = Form(2, [(1, ((1, 0), (0, 1)))])


def worths_on(wish, row):
    return [form.at(row) for form in lot(wish)]


def some_change(chance, width, size=3):
    matrix, offsets, turns = some_change_parts(chance, width, size)
    return Change(matrix, offsets, turns=turns)


class Alike(unittest.TestCase):
    def check_apart(self, wish, one, other, cells=None):
        """Checks the row on which two changes are told apart, which has to have so many cells."""
        self.assertIs(alike(wish, one, other), False)
        found = apart(wish, one, other)
        self.assertIs(type(found), tuple)
        row, steps, name = found
        self.assertTrue(good_row(row, wish.width))
        rows = one.row(row), other.row(row)
        self.assertEqual(len(told_apart(wish, rows[0], rows[1])[0]), len(steps))
        for step in steps:
            self.assertTrue(good_step(step, wish))
        form = dict(wish.asks())[name]
        self.assertNotEqual(*[form.at(row_by_steps(wish, changed, steps)) for changed in rows])
        if cells is not None:
            self.assertEqual(len(row), cells)
        return row

    def check_alike(self, wish, one, other):
        self.assertIs(alike(wish, one, other), True)
        self.assertIs(apart(wish, one, other), None)

    def test_section_8(self):
        self.check_alike(SUMS, TURN, SAME)
        self.check_apart(SUMS, ADD, DOUBLE, 1)
        self.assertEqual(swaps(SUMS), [("add", "turn"), ("double", "turn")])

    def test_changes_that_are_equal(self):
        self.check_alike(SUMS, ADD, Change([[1]], [3]))
        self.check_alike(Wish(2, [("a", PAIRS)], []), Change([[1, 2], [3, 4]], [5, 6]), Change([[1, 2], [3, 4]], [5, 6]))

    def test_wishes_of_rank_0_and_1(self):
        for asks in ([], [("a", Form(1, []))], [("a", Form(1, [(5, ())]))]):
            wish = Wish(1, asks, [("a", ADD), ("b", DOUBLE)])
            self.check_alike(wish, ADD, DOUBLE)
            self.assertEqual(swaps(wish), [("a", "b")])

    def test_what_the_asks_do_not_see(self):
        wish = Wish(2, [("a", LINE)], [])
        self.check_alike(wish, Change([[1, 0], [0, 1]], [0, 0]), Change([[1, 0], [7, 8]], [0, 9], turns=True))
        self.check_apart(wish, Change([[1, 0], [0, 1]], [0, 0]), Change([[1, 1], [0, 1]], [0, 0]), 1)
        many = Wish(1, [("a", Form(1, [(1, ((0,), (0,)))]))], [])
        self.check_alike(many, ADD, Change([[0]], [7], turns=True))

    def test_rows_of_more_cells(self):
        wish = Wish(1, [("a", PLACES)], [])
        self.check_apart(wish, SAME, TURN, 2)
        for words in ([((1,), (2,), (1,)), ((1,), (1,), (2,))], [((0,), (0,), (1,))], [((1,), (1,), (3,))]):
            self.check_apart(Wish(1, [("a", Form(1, [(1, word) for word in words]))], []), SAME, TURN, 2)
        even = Form(1, [(1, ((1,), (2,), (1,))), (1, ((1,), (1,), (2,))), (1, ((2,), (1,), (1,)))])
        self.check_alike(Wish(1, [("a", even)], []), SAME, TURN)
        # Turned and changed cell by cell: one cell is enough to see it.
        self.check_apart(Wish(1, [("a", even)], []), ADD, TURN, 1)

    def test_cells_that_no_small_cell_tells_apart(self):
        # This form is worth nothing for one cell that is 0, 1 or 2, and for a cell that is made 0.
        form = Form(1, [(1, ((3,),)), (-3, ((2,),)), (2, ((1,),))])
        self.check_apart(Wish(1, [("a", form)], []), SAME, Change([[0]], [0]), 1)

    def test_any_changes(self):
        chance = random.Random(100)
        kinds = {True: 0, False: 0}
        cells = {1: [(part,) for part in range(-1, 4)], 2: list(product(range(-1, 3), repeat=2))}
        while min(kinds.values()) < 60:
            wish = some_wish(chance, chance.choice([1, 4]))
            one = chance.choice([some_change(chance, wish.width)] + [change for _, change in wish.changes()])
            other = chance.choice([some_change(chance, wish.width), Change(one.matrix(), one.offsets(), turns=not one.turns),
                                   Change(one.matrix(), [7] * wish.width, turns=one.turns)])
            like = alike(wish, one, other)
            kinds[like] += 1
            if like:
                self.check_alike(wish, one, other)
            else:
                least = len(self.check_apart(wish, one, other))
            for many in range(4 if like else least):
                for _ in range(20):
                    row = [chance.choice(cells[wish.width]) for _ in range(many)]
                    self.assertEqual(worths_on(wish, one.row(row)), worths_on(wish, other.row(row)))

    def test_changes_with_long_numbers(self):
        great = 10 ** 20 - 1
        self.check_apart(SUMS, Change([[great]], [0]), Change([[great]], [1]), 1)
        self.check_apart(SUMS, Change([[great]], [0]), Change([[great - (2 ** 61 - 1)]], [0]), 1)
        for bits in (127, 521, 1009):
            self.check_apart(SUMS, SAME, Change([[2 ** bits]], [0]), 1)
            self.check_apart(SUMS, SAME, Change([[1]], [2 ** bits - 1]), 1)

    def test_lists_belong_to_the_caller(self):
        found = apart(SUMS, ADD, DOUBLE)
        self.assertEqual(len(lists_within(found)), 2)
        for one in lists_within(found):
            one.append(7)
        self.check_apart(SUMS, ADD, DOUBLE, 1)

    def test_arguments_by_name(self):
        self.assertIs(alike(other=SAME, one=TURN, wish=SUMS), True)
        self.assertIs(apart(other=SAME, one=TURN, wish=SUMS), None)
        self.assertEqual(swaps(wish=Wish(1, [], [])), [])
        self.assertIs(loses(name="add", wish=SUMS), None)

    def test_wrong_inputs(self):
        wide = Change([[1, 0], [0, 1]], [0, 0])
        for value in any_values():
            for call in (alike, apart):
                if type(value) is not Wish:
                    for change in (ADD, None, wide):
                        raised(self, InvalidWish, lambda: call(value, change, None), "value", value)
                if not good_change(value, 1):
                    for change in (ADD, None, wide):
                        raised(self, InvalidChange, lambda: call(SUMS, value, change), "value", value)
                    raised(self, InvalidChange, lambda: call(SUMS, ADD, value), "value", value)
                if not good_change(value, 2):
                    raised(self, InvalidChange, lambda: call(Wish(2, [], []), value, ADD), "value", value)
                    raised(self, InvalidChange, lambda: call(Wish(2, [], []), wide, value), "value", value)
            if type(value) is not Wish:
                raised(self, InvalidWish, lambda: swaps(value), "value", value)


class Swaps(unittest.TestCase):
    def test_names_in_order(self):
        wish = Wish(1, [("a", TOTAL)], [("z", TURN), ("b", ADD), ("m", SAME), ("c", Change([[1]], [-5]))])
        self.assertEqual(swaps(wish), [("b", "c"), ("b", "m"), ("b", "z"), ("c", "m"), ("c", "z"), ("m", "z")])

    def test_two_names_of_the_same_change(self):
        self.assertEqual(swaps(Wish(1, [("a", SQUARES)], [("b", ADD), ("a", ADD)])), [("a", "b")])

    def test_none_and_one_change(self):
        self.assertEqual(swaps(Wish(2, [("a", PAIRS)], [])), [])
        self.assertEqual(swaps(Wish(1, [("a", TOTAL)], [("b", ADD)])), [])

    def test_any_changes(self):
        chance = random.Random(101)
        for _ in range(60):
            wish = some_wish(chance, 3)
            found = swaps(wish)
            self.assertEqual(found, sorted(found))
            changes = dict(wish.changes())
            for one in changes:
                for other in changes:
                    forth, back = changes[one].then(changes[other]), changes[other].then(changes[one])
                    self.assertEqual((one, other) in found, one < other and alike(wish, forth, back))

    def test_returned_lists_belong_to_the_caller(self):
        swaps(SUMS).clear()
        self.assertEqual(len(swaps(SUMS)), 2)


class Loses(unittest.TestCase):
    def check_loses(self, wish, name):
        """Checks two rows that show that a change loses something."""
        found = loses(wish, name)
        self.assertIs(type(found), tuple)
        self.assertEqual(len(found), 2)
        change = dict(wish.changes())[name]
        for row in found:
            self.assertTrue(good_row(row, wish.width))
        self.assertNotEqual(worths_on(wish, found[0]), worths_on(wish, found[1]))
        self.assertIsNot(told_apart(wish, found[0], found[1]), None)
        self.assertEqual(worths_on(wish, change.row(found[0])), worths_on(wish, change.row(found[1])))
        self.assertIs(told_apart(wish, change.row(found[0]), change.row(found[1])), None)
        self.assertEqual(len(lists_within(found)), 2)
        self.assertEqual(len({id(row) for row in found}), 2)

    def test_changes_that_lose_nothing(self):
        for name in ("add", "double", "turn"):
            self.assertIs(loses(SUMS, name), None)
        wish = Wish(2, [("a", PAIRS)], [("b", Change([[1, 2], [3, 4]], [5, 6], turns=True))])
        self.assertIs(loses(wish, "b"), None)

    def test_a_change_to_one_cell(self):
        wish = Wish(1, [("a", TOTAL)], [("b", Change([[0]], [5])), ("c", Change([[0]], [0], turns=True))])
        self.check_loses(wish, "b")
        self.check_loses(wish, "c")
        many = Wish(1, [("a", Form(1, [(1, ((0,),))]))], wish.changes())
        self.assertIs(loses(many, "b"), None)
        for asks in ([], [("a", Form(1, []))], [("a", Form(1, [(3, ())]))]):
            self.assertIs(loses(Wish(1, asks, wish.changes()), "c"), None)

    def test_a_part_that_is_lost(self):
        flat = Change([[1, 0], [0, 0]], [0, 4])
        self.check_loses(Wish(2, [("a", PAIRS)], [("b", flat)]), "b")
        self.check_loses(Wish(2, [("a", Form(2, [(1, ((1, 1),))]))], [("b", flat)]), "b")
        self.assertIs(loses(Wish(2, [("a", LINE)], [("b", flat)]), "b"), None)
        other = Form(2, [(1, ((0, 1),))])
        self.check_loses(Wish(2, [("a", LINE), ("b", other)], [("b", flat)]), "b")

    def test_parts_that_are_mixed(self):
        mix = Change([[2, -4], [-3, 6]], [1, 1], turns=True)
        self.check_loses(Wish(2, [("a", LINE)], [("b", mix)]), "b")
        # This change takes x - 2 y to 8 times itself and an offset, and nothing else is asked.
        line = Form(2, [(1, ((1, 0),)), (-2, ((0, 1),))])
        self.assertIs(loses(Wish(2, [("a", line)], [("b", mix)]), "b"), None)
        self.assertIs(loses(Wish(2, [("a", line * line)], [("b", mix)]), "b"), None)

    def test_what_is_seen_becomes_what_is_not_seen(self):
        # The first part becomes the second one, which is not asked, and the first one 0: no cells become alike that
        # are asked to be told apart.
        move = Change([[0, 0], [1, 0]], [3, 0])
        self.check_loses(Wish(2, [("a", LINE)], [("b", move)]), "b")
        slide = Change([[2, 4], [-1, -2]], [0, 7])
        line = Form(2, [(1, ((1, 0),)), (2, ((0, 1),))])
        self.check_loses(Wish(2, [("a", line)], [("b", slide)]), "b")
        self.check_loses(Wish(2, [("a", line * line)], [("b", slide)]), "b")
        many = Wish(2, [("a", Form(2, [(1, ((0, 0), (0, 0)))]))], [("b", slide)])
        self.assertIs(loses(many, "b"), None)

    def test_only_rows_of_more_cells(self):
        # Only which of two cells is the greater one by its second part is seen.
        form = Form(2, [(1, ((0, 1), (0, 0))), (-1, ((0, 0), (0, 1)))])
        flat = Change([[1, 0], [0, 0]], [0, 0])
        wish = Wish(2, [("a", form)], [("b", flat)])
        self.check_loses(wish, "b")

    def test_any_changes(self):
        chance = random.Random(102)
        kinds = {True: 0, False: 0}
        while min(kinds.values()) < 60:
            wish = some_wish(chance, chance.choice([1, 3]))
            for name, change in wish.changes():
                # A change loses something just if it makes of some form of the lot, but for that without terms, none.
                span = FormSpan()
                keeps = all([span.add(form.changed(change)) for form in lot(wish)])
                kinds[keeps] += 1
                if keeps:
                    self.assertIs(loses(wish, name), None)
                else:
                    self.check_loses(wish, name)

    def test_any_matrices_that_cannot_be_undone(self):
        chance = random.Random(103)
        for _ in range(60):
            one, other = [chance.randint(-3, 3) for _ in range(2)], [chance.randint(-2, 2) for _ in range(2)]
            matrix = [[other[0] * part for part in one], [other[1] * part for part in one]]
            matrix = chance.choice([matrix, [[4, -2], [8, -4]], [[0, 0], [0, 0]]])
            turned = [[(one[0], ((1, 0),)), (one[1], ((0, 1),))], [(1, ((1, 0), (0, 0)))], [(1, ((0, 2),))]]
            wish = Wish(2, [("a", Form(2, chance.choice(turned)))],
                        [("b", Change(matrix, [0, 1], turns=chance.random() < 0.5))])
            span = FormSpan()
            if all([span.add(form.changed(wish.changes()[0][1])) for form in lot(wish)]):
                self.assertIs(loses(wish, "b"), None)
            else:
                self.check_loses(wish, "b")

    def test_wrong_inputs(self):
        for value in any_values() + bad_names():
            if type(value) is not Wish:
                for name in ("add", None, value):
                    raised(self, InvalidWish, lambda: loses(value, name), "value", value)
            if type(value) is not str or value not in ("add", "double", "turn"):
                raised(self, UnknownName, lambda: loses(SUMS, value), "name", value)
        raised(self, UnknownName, lambda: loses(SUMS, "sum"), "name", "sum")

    def test_an_error_and_a_call_change_nothing(self):
        wish = Wish(2, [("a", PAIRS)], [("b", Change([[1, 0], [0, 0]], [0, 4]))])
        before = [form.terms() for form in lot(wish)]
        raised(self, UnknownName, lambda: loses(wish, "a"))
        for _ in range(2):
            alike(wish, wish.changes()[0][1], Change([[1, 2], [0, 0]], [0, 4]))
            apart(wish, wish.changes()[0][1], Change([[1, 2], [0, 0]], [0, 4]))
            loses(wish, "b")
            swaps(wish)
            told_apart(wish, [(1, 2)], [(2, 1)])
            self.assertEqual([form.terms() for form in lot(wish)], before)
        self.assertEqual(wish, Wish(2, [("a", PAIRS)], [("b", Change([[1, 0], [0, 0]], [0, 4]))]))


if __name__ == "__main__":
    unittest.main()
