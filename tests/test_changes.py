"""[15]: changes."""

import random
import unittest

from latesums.changes import Change
from latesums.errors import InvalidChange, InvalidList, InvalidNumber, InvalidRow
from latesums.forms import Form
from tests.samples import (any_values, change_by_hand, good_change, good_line, good_matrix, good_row, lists_within,
                           raised, some_change_parts, some_row, timed)


class Changes(unittest.TestCase):
    def test_what_it_is_made_of(self):
        change = Change([[1, 2], [3, 4]], [5, 6], turns=True)
        self.assertEqual((change.width, change.matrix(), change.offsets()), (2, [[1, 2], [3, 4]], [5, 6]))
        self.assertIs(change.turns, True)
        self.assertEqual((Change([[7]], [0]).width, Change([[7]], [0]).matrix()), (1, [[7]]))
        self.assertIs(Change([[7]], [0]).turns, False)

    def test_row_of_one_part(self):
        self.assertEqual(Change([[2]], [3]).row([(1,), (-4,), (0,)]), [(5,), (-5,), (3,)])
        self.assertEqual(Change([[1]], [0], turns=True).row([(1,), (2,), (3,)]), [(3,), (2,), (1,)])
        self.assertEqual(Change([[0]], [0]).row([(1,), (2,)]), [(0,), (0,)])

    def test_row_of_two_parts(self):
        self.assertEqual(Change([[1, 2], [3, 4]], [5, 6]).row([(1, 10), (7, 0)]), [(26, 49), (12, 27)])
        self.assertEqual(Change([[0, 1], [1, 0]], [0, 0], turns=True).row([(1, 2), (3, 4)]), [(4, 3), (2, 1)])

    def test_row_without_cells(self):
        self.assertEqual(Change([[2]], [3], turns=True).row([]), [])

    def test_rows_by_hand(self):
        chance = random.Random(15)
        for _ in range(200):
            width = chance.randint(1, 2)
            matrix, offsets, turns = some_change_parts(chance, width)
            row = some_row(chance, width, chance.randint(0, 5))
            change = Change(matrix, offsets, turns=turns)
            self.assertEqual(change.row(row), change_by_hand(matrix, offsets, turns, row))

    def test_row_returns_plain_values(self):
        for turns in (False, True):
            row = [(1,), (2,)]
            changed = Change([[1]], [0], turns=turns).row(row)
            self.assertIs(type(changed), list)
            self.assertIsNot(changed, row)
            self.assertEqual([type(cell) for cell in changed], [tuple, tuple])

    def test_then(self):
        first, second = Change([[2]], [3]), Change([[5]], [7], turns=True)
        self.assertEqual(first.then(second), Change([[10]], [22], turns=True))
        self.assertEqual(second.then(first), Change([[10]], [17], turns=True))
        self.assertIs(second.then(second).turns, False)
        self.assertIs(first.then(first).turns, False)

    def test_then_does_one_after_the_other(self):
        chance = random.Random(16)
        for _ in range(200):
            width = chance.randint(1, 2)
            parts = [some_change_parts(chance, width) for _ in range(2)]
            one, other = [Change(matrix, offsets, turns=turns) for matrix, offsets, turns in parts]
            row = some_row(chance, width, 4)
            both = one.then(other)
            self.assertEqual(both.row(row), other.row(one.row(row)))
            self.assertIs(type(both.turns), bool)
            self.assertEqual(both.width, width)

    def test_equality(self):
        change = Change([[1, 2], [3, 4]], [5, 6])
        self.assertTrue(change == Change([[1, 2], [3, 4]], [5, 6]))
        self.assertFalse(change != Change([[1, 2], [3, 4]], [5, 6], turns=False))
        self.assertFalse(change == Change([[1, 2], [3, 4]], [5, 6], turns=True))
        self.assertFalse(change == Change([[1, 2], [3, 5]], [5, 6]))
        self.assertFalse(change == Change([[1, 3], [2, 4]], [5, 6]))
        self.assertFalse(change == Change([[1, 2], [3, 4]], [5, 7]))
        self.assertFalse(Change([[1]], [0]) == Change([[1, 0], [0, 1]], [0, 0]))

    def test_not_equal_to_any_other_object(self):
        change = Change([[1]], [0])
        for value in any_values():
            if type(value) is not Change:
                self.assertIs(change == value, False)
                self.assertIs(change != value, True)
        self.assertIs(change == Form(1, []), False)


class WrongInputs(unittest.TestCase):
    def test_matrix_offsets_and_turns_in_this_order(self):
        values = any_values()
        matrices = values + [[[1]] * 2, [[1, 0]] * 3, [[1, "0"], [0, 1]], [[1], [0, 1]]]
        offsets = [[0], [0, 0], [0, 0, 0], [], (0,), [True], [0, None], None, "0", 3, Form(1, []), {0: 0}]
        turns = [True, False, None, 0, 1, "", "True", [], [True], (True,), Change([[1]], [0])]
        for matrix in matrices:
            for offset in offsets:
                for turn in turns:
                    self.check(matrix, offset, turn)

    def test_any_offsets_and_turns(self):
        for value in any_values():
            for matrix in ([[1]], [[1, 0], [0, 1]], None):
                self.check(matrix, value, False)
                self.check(matrix, value, None)
                self.check(matrix, [0], value)
                self.check(matrix, [0, 0], value)
                self.check(matrix, None, value)

    def check(self, matrix, offsets, turns):
        def call():
            return Change(matrix, offsets, turns=turns)

        if not good_matrix(matrix):
            raised(self, InvalidList, call, "value", matrix)
        elif not good_line(offsets, len(matrix)):
            raised(self, InvalidList, call, "value", offsets)
        elif type(turns) is not bool:
            raised(self, InvalidNumber, call, "value", turns)
        else:
            self.assertEqual((call().matrix(), call().offsets(), call().turns), (matrix, offsets, turns))

    def test_row(self):
        for change in (Change([[2]], [1]), Change([[1, 2], [3, 4]], [5, 6], turns=True)):
            for value in any_values() + [[(1, 2), (3, 4)], [(1,), (2, 3)], ((1,),)]:
                if good_row(value, change.width):
                    expected = change_by_hand(change.matrix(), change.offsets(), change.turns, value)
                    self.assertEqual(change.row(value), expected)
                else:
                    raised(self, InvalidRow, lambda: change.row(value), "value", value)

    def test_then(self):
        for change in (Change([[2]], [1]), Change([[1, 2], [3, 4]], [5, 6], turns=True)):
            for value in any_values():
                if good_change(value, change.width):
                    self.assertIs(type(change.then(value)), Change)
                else:
                    raised(self, InvalidChange, lambda: change.then(value), "value", value)

    def test_an_error_changes_nothing(self):
        change = Change([[2]], [1])
        raised(self, InvalidRow, lambda: change.row(None))
        raised(self, InvalidChange, lambda: change.then(None))
        self.assertEqual(change, Change([[2]], [1]))


class Independence(unittest.TestCase):
    def test_arguments_may_be_changed_after_the_call(self):
        matrix, offsets = [[1, 2], [3, 4]], [5, 6]
        change = Change(matrix, offsets)
        matrix[0][0], offsets[0] = 100, 100
        matrix.append([1])
        self.assertEqual((change.matrix(), change.offsets(), change.width), ([[1, 2], [3, 4]], [5, 6], 2))
        self.assertEqual(change.row([(1, 0)]), [(6, 9)])

    def test_arguments_stay_as_they_were(self):
        matrix, offsets, row = [[1, 2], [3, 4]], [5, 6], [(1, 2), (3, 4)]
        change = Change(matrix, offsets, turns=True)
        change.row(row)
        change.then(change)
        self.assertEqual((matrix, offsets, row), ([[1, 2], [3, 4]], [5, 6], [(1, 2), (3, 4)]))
        self.assertEqual(change, Change([[1, 2], [3, 4]], [5, 6], turns=True))

    def test_returned_lists_belong_to_the_caller(self):
        line = [1, 2]
        for change in (Change([line, line], line), Change([line, line], line).then(Change([[1, 0], [0, 1]], [0, 0]))):
            before, row = change.then(change), [(1, 1), (2, 2)]
            changed = change.row(row)
            found = lists_within(change.matrix()) + lists_within(change.matrix())
            self.assertEqual(len(found), 6)
            self.assertEqual(len({id(one) for one in found}), 6)
            for made in (change.matrix()[0], change.matrix(), change.offsets(), change.row(row)):
                made.clear()
            for made in (change.then(change).matrix()[0], change.then(change).offsets()):
                made.append(9)
            self.assertEqual(change.then(change), before)
            self.assertEqual(change.row(row), changed)

    def test_equal_calls_return_equal_results(self):
        for _ in range(2):
            self.assertEqual(Change([[2]], [3]).then(Change([[4]], [5])), Change([[8]], [17]))


class Limits(unittest.TestCase):
    def test_big_numbers_and_long_rows(self):
        big = 10 ** 20 - 1
        change = Change([[big, -big], [big, big]], [big, -big], turns=True)
        row = [(big - at, -big + at) for at in range(300)]
        changed = timed(self, lambda: change.row(row))
        self.assertEqual(changed, change_by_hand(change.matrix(), change.offsets(), True, row))

    def test_many_changes_one_after_another(self):
        change = Change([[10 ** 20 - 1, 1], [2, 3]], [4, 5], turns=True)
        done = change
        for _ in range(59):
            done = timed(self, lambda: done.then(change))
        self.assertEqual(done.turns, False)
        row = [(1, 2), (3, 4)]
        expected = row
        for _ in range(60):
            expected = change.row(expected)
        self.assertEqual(done.row(row), expected)


if __name__ == "__main__":
    unittest.main()
