"""[60] to [63]: trees."""

import random
import unittest

from latesums.changes import Change
from latesums.errors import InvalidNumber, InvalidPlan, InvalidRow, InvalidTree, InvalidWish, Unfit, UnknownName
from latesums.forms import Form
from latesums.plans import Plan, least_plan
from latesums.stories import is_right, numbers_of, row_of
from latesums.trees import Tree
from latesums.wishes import Wish
from tests.groves import Grove
from tests.oracles import some_wish
from tests.samples import any_values, bad_names, good_row, lists_within, raised, some_row, whole, worth_by_hand
from tests.tellers import parts_of_plan, slightly_other, with_more_numbers

ONE, MANY, TOTAL = Form(1, [(1, ())]), Form(1, [(1, ((0,),))]), Form(1, [(1, ((1,),))])
ADD, TURN = Change([[1]], [3]), Change([[1]], [0], turns=True)
WISH = Wish(1, [("sum", TOTAL)], [("add", ADD), ("turn", TURN)])
JOINS = [[(0, 0, 1)], [(0, 1, 1), (1, 0, 1)], [(0, 2, 1), (2, 0, 1)]]
MATRICES = [("add", [[1, 0, 0], [0, 1, 0], [0, 3, 1]]), ("turn", [[1, 0, 0], [0, 1, 0], [0, 0, 1]])]
PLAN = Plan(1, [1, 0, 0], [ONE, MANY, TOTAL], JOINS, MATRICES, [("sum", [0, 0, 1])])
ROW = [(4,), (6,), (2,)]
# A plan that is wrong in all it can be: its numbers hang on how the tree was made.
WRONG = Plan(1, [5, -7], [TOTAL, ONE], [[(0, 0, 1), (1, 1, 2)], [(0, 1, 1), (1, 0, 3)]],
             [("turn", [[1, 1], [0, 2]]), ("other", [[0, 0], [0, 0]]), ("add", [[2, 0], [1, -1]])],
             [("other", [7, 7]), ("sum", [1, -2])])


class TreeCase(unittest.TestCase):
    def check_tree(self, grove, tree, expected):
        """Checks all that a tree tells against a plain one."""
        row = grove.row(expected)
        self.assertIs(type(tree), Tree)
        self.assertEqual((tree.plan, tree.wish), (grove.plan, grove.wish))
        self.assertEqual(tree.row(), row)
        self.assertEqual(len(tree), len(row))
        self.assertEqual(tree.numbers(), expected[1])
        self.assertEqual(tree.waiting(), grove.waiting(expected))
        self.assertEqual(tree.shape(), grove.shape(expected))
        story = tree.story()
        self.assertEqual(row_of(tree.wish, story), row)
        self.assertEqual(numbers_of(tree.plan, tree.wish, story), tree.numbers())

    def some_plan(self, chance):
        """A wish and a plan for it, right or wrong."""
        wish = some_wish(chance, 3)
        plan = with_more_numbers(chance, least_plan(wish), chance.choice([0, 0, 1]))
        return wish, slightly_other(chance, plan)


class Examples(unittest.TestCase):
    def test_section_9(self):
        tree = Tree(PLAN, WISH, ROW)
        later = tree.changed("add", 1)
        turned = later.changed("turn")
        self.assertEqual([tree.shape(), later.row(), later.numbers(), later.waiting(), later.part(1).waiting(), later.told("sum", 1)],
                         ['(.(..))', [(4,), (9,), (5,)], [1, 3, 18], [], ['add'], 14])
        self.assertEqual([turned.row(), turned.waiting(), turned.shape(), turned.told("sum", 0, 1), (turned + tree).shape(),
                          turned == Tree(PLAN, WISH, [(5,), (9,), (4,)])],
                         [[(5,), (9,), (4,)], ['turn'], '(.(..))', 5, '((.(..))(.(..)))', True])


class SmallTrees(TreeCase):
    def test_the_empty_tree(self):
        for plan in (PLAN, WRONG):
            grove, empty = Grove(plan, WISH), Tree(plan, WISH, [])
            for tree in (empty, empty.changed("add"), empty.changed("turn", 0, 0), empty.part(), empty.part(0, 0), empty + empty,
                         Tree(plan, WISH, ROW).part(2, 2), Tree(plan, WISH, ROW).part(0, 0), Tree(plan, WISH, ROW).part(3)):
                self.check_tree(grove, tree, grove.empty())
                self.assertEqual(tree.story(), ("empty",))
                self.assertEqual((tree.shape(), tree.row(), tree.waiting(), len(tree)), ("", [], [], 0))
            self.assertEqual(empty.told("sum"), grove.told(grove.empty(), "sum"))
            self.assertEqual(empty.told("sum", 0, 0), grove.told(grove.empty(), "sum"))

    def test_a_tree_of_one_cell(self):
        for plan in (PLAN, WRONG):
            grove, tree = Grove(plan, WISH), Tree(plan, WISH, [(4,)])
            self.check_tree(grove, tree, grove.cell((4,)))
            self.check_tree(grove, tree.changed("add"), grove.change(grove.cell((4,)), "add"))
            self.check_tree(grove, tree.changed("turn", 0, 1).changed("add", 0),
                            grove.change(grove.change(grove.cell((4,)), "turn"), "add"))
            for low, high in ((0, 0), (1, 1), (1, None)):
                self.check_tree(grove, tree.changed("add", low, high), grove.cell((4,)))
            self.assertEqual(tree.changed("add").waiting(), [])

    def test_shapes_of_rows(self):
        for many, shape in enumerate(["", ".", "(..)", "(.(..))", "((..)(..))", "((..)(.(..)))", "((.(..))(.(..)))",
                                      "((.(..))((..)(..)))"]):
            tree = Tree(PLAN, WISH, [(at,) for at in range(many)])
            self.assertEqual((tree.shape(), len(tree), tree.waiting()), (shape, many, []))

    def test_names_that_wait(self):
        tree = Tree(PLAN, WISH, ROW).changed("add").changed("turn").changed("turn").changed("add")
        self.assertEqual(tree.waiting(), ["add", "turn", "turn", "add"])
        self.assertEqual((tree.row(), tree.shape()), ([(10,), (12,), (8,)], "(.(..))"))
        tree = tree.changed("turn")
        self.assertEqual((tree.row(), tree.shape()), ([(8,), (12,), (10,)], "(.(..))"))
        self.assertEqual((tree.part(0, 2).shape(), tree.part(0, 2).waiting()), ("(..)", ["add", "turn", "turn", "add", "turn"]))
        self.assertEqual((tree.part(1).shape(), tree.part(1).waiting(), tree.part(1).row()), ("(..)", [], [(12,), (10,)]))
        again = tree.changed("add", 1, 1)
        self.assertEqual((again.waiting(), again.row(), again.shape()), ([], tree.row(), "(.(..))"))

    def test_a_change_of_no_cells_cuts_and_joins(self):
        tree = Tree(PLAN, WISH, [(at,) for at in range(5)]).changed("turn")
        self.assertEqual((tree.shape(), tree.waiting()), ("((..)(.(..)))", ["turn"]))
        again = tree.changed("add", 1, 1)
        self.assertEqual((again.waiting(), again.row()), ([], tree.row()))
        self.assertNotEqual(again.shape(), tree.shape())
        grove = Grove(PLAN, WISH)
        plain = grove.change(grove.made([(at,) for at in range(5)]), "turn")
        for at in range(6):
            self.check_tree(grove, tree.changed("add", at, at), grove.changed(plain, "add", at, at))
        self.assertEqual(tree.changed("add", 0, 0).waiting(), ["turn"])
        self.assertEqual(tree.changed("add", 5, 5).waiting(), ["turn"])

    def test_high_left_out(self):
        tree = Tree(PLAN, WISH, ROW)
        for low in range(4):
            for one, other in ((tree.changed("add", low), tree.changed("add", low, None)),
                               (tree.changed("add", low), tree.changed("add", low, 3)), (tree.part(low), tree.part(low, 3))):
                self.assertEqual((one.row(), one.shape(), one.waiting()), (other.row(), other.shape(), other.waiting()))
            self.assertEqual(tree.told("sum", low), tree.told("sum", low, 3))
        self.assertEqual(tree.told("sum"), 12)

    def test_the_whole_tree_is_not_cut(self):
        tree = Tree(PLAN, WISH, ROW).changed("add")
        self.assertEqual((tree.part().waiting(), tree.part(0, 3).waiting()), (["add"], ["add"]))
        self.assertEqual(tree.changed("turn", 0, 3).waiting(), ["add", "turn"])

    def test_joins(self):
        one, two, none = Tree(PLAN, WISH, ROW), Tree(PLAN, WISH, [(1,)]).changed("add"), Tree(PLAN, WISH, [])
        self.assertEqual(((one + two).row(), (one + two).shape()), (ROW + [(4,)], "((.(..)).)"))
        self.assertEqual((none + one).shape(), "(.(..))")
        self.assertEqual((one.changed("turn") + none).waiting(), ["turn"])
        self.assertEqual((none + one.changed("turn")).waiting(), ["turn"])
        self.assertEqual((one + one).row(), ROW + ROW)
        again = one
        again += two
        self.assertEqual((len(one), len(again)), (3, 4))

    def test_plans_of_other_wishes_that_are_wrong(self):
        tree = Tree(WRONG, WISH, ROW)
        self.assertIs(is_right(WRONG, WISH), False)
        self.assertEqual(tree.told("sum", 1, 2), 6 - 2)
        raised(self, UnknownName, lambda: tree.told("other"), "name", "other")
        raised(self, UnknownName, lambda: tree.changed("other"), "name", "other")

    def test_without_asks_and_numbers(self):
        wish = Wish(2, [], [("swap", Change([[0, 1], [1, 0]], [0, 0]))])
        tree = Tree(Plan(2, [], [], [], [("swap", [])], []), wish, [(1, 2), (3, 4), (5, 6)]).changed("swap", 1)
        self.assertEqual((tree.numbers(), tree.row()), ([], [(1, 2), (4, 3), (6, 5)]))
        raised(self, UnknownName, lambda: tree.told("sum"), "name", "sum")


class AnyTrees(TreeCase):
    def some_deed(self, chance, grove, tree, plain):
        """A tree and a plain one behind one deed."""
        many = grove.size(plain)
        low = chance.randint(0, many)
        high = chance.choice([None, many, low, chance.randint(low, many), chance.randint(low, many)])
        names = [name for name, _ in grove.wish.changes()]
        kind = chance.randint(0, 9)
        if kind == 0:
            return tree.part(low, high), grove.part(plain, low, high)
        if kind == 1:
            row = some_row(chance, grove.wish.width, chance.randint(0, 4), 3)
            return tree + Tree(grove.plan, grove.wish, row), grove.join(plain, grove.made(row))
        if kind == 2:
            return tree.part(low) + tree.part(0, low), grove.join(grove.part(plain, low), grove.part(plain, 0, low))
        if not names:
            return tree, plain
        name = chance.choice(names)
        if kind == 3:
            return tree.changed(name), grove.changed(plain, name)
        return tree.changed(name, low, high), grove.changed(plain, name, low, high)

    def test_any_deeds(self):
        chance = random.Random(120)
        for _ in range(60):
            wish, plan = self.some_plan(chance)
            row = some_row(chance, wish.width, chance.randint(0, 12), 3)
            grove, tree = Grove(plan, wish), Tree(plan, wish, row)
            plain = grove.made(row)
            self.check_tree(grove, tree, plain)
            seen = [(tree, plain)]
            for _ in range(12):
                tree, plain = self.some_deed(chance, grove, *chance.choice([seen[-1], seen[-1], chance.choice(seen)]))
                self.check_tree(grove, tree, plain)
                self.check_told(chance, grove, tree, plain)
                seen.append((tree, plain))
                if grove.size(plain) > 40:
                    break
            # Trees are values: the elder ones stay as they were.
            for tree, plain in seen:
                self.check_tree(grove, tree, plain)

    def check_told(self, chance, grove, tree, plain):
        many = grove.size(plain)
        low = chance.randint(0, many)
        high = chance.choice([None, chance.randint(low, many)])
        self.check_tree(grove, tree.part(low, high), grove.part(plain, low, high))
        for name, _ in grove.wish.asks():
            self.assertEqual(tree.told(name, low, high), grove.told(plain, name, low, high))

    def test_right_plans_tell_the_asks_of_all_stretches(self):
        chance = random.Random(121)
        for _ in range(30):
            wish = some_wish(chance, 3)
            plan, row = least_plan(wish), some_row(chance, wish.width, chance.randint(1, 9), 3)
            tree = Tree(plan, wish, row)
            for _ in range(8):
                low = chance.randint(0, len(tree))
                high = chance.randint(low, len(tree))
                if wish.changes():
                    tree = tree.changed(chance.choice(wish.changes())[0], low, high)
                for name, form in wish.asks():
                    self.assertEqual(tree.told(name), form.at(tree.row()))
                    self.assertEqual(tree.told(name, low, high), worth_by_hand(form.terms(), tree.row()[low:high]))

    def test_rows_do_not_hang_on_the_order_of_cuts(self):
        tree = Tree(PLAN, WISH, [(at,) for at in range(9)])
        row = tree.row()
        chance = random.Random(122)
        for _ in range(60):
            low = chance.randint(0, 9)
            high = chance.randint(low, 9)
            name = chance.choice(["add", "turn"])
            tree = tree.changed(name, low, high)
            row[low:high] = (ADD if name == "add" else TURN).row(row[low:high])
            self.assertEqual(tree.row(), row)
            self.assertEqual(tree.told("sum", low, high), sum(cell[0] for cell in row[low:high]))


class Equality(unittest.TestCase):
    def test_equal_trees(self):
        one = Tree(PLAN, WISH, ROW)
        other = Tree(Plan(*parts_of_plan(PLAN)), Wish(1, WISH.asks(), WISH.changes()), [(4,), (6,)])
        other = other + Tree(PLAN, WISH, [(-1,)]).changed("add")
        self.assertNotEqual(one.shape(), other.shape())
        self.assertIs(one == other, True)
        self.assertIs(one != other, False)
        self.assertIs(one == one.changed("turn").changed("turn"), True)
        self.assertIs(one == one.changed("turn"), False)
        self.assertIs(one.part(1, 1) == Tree(PLAN, WISH, []), True)

    def test_unlike_trees(self):
        one = Tree(PLAN, WISH, ROW)
        width, empty, lift, joins, changes, asks = parts_of_plan(PLAN)
        for other in (Tree(PLAN, WISH, ROW[:2]), Tree(PLAN, WISH, ROW[::-1]), Tree(PLAN, WISH, []),
                      Tree(Plan(1, [1, 0, 5], lift, joins, changes, asks), WISH, ROW),
                      Tree(PLAN, Wish(1, WISH.asks(), WISH.changes()[::-1]), ROW), Tree(PLAN, Wish(1, [], []), ROW)):
            self.assertIs(one == other, False)
            self.assertIs(one != other, True)

    def test_not_equal_to_any_other_object(self):
        tree = Tree(PLAN, WISH, [])
        for value in any_values() + [ROW, PLAN, WISH, [], ""]:
            self.assertIs(tree == value, False)
            self.assertIs(value == tree, False)
            self.assertIs(tree != value, True)


class TreeErrors(unittest.TestCase):
    def test_what_a_tree_is_made_of(self):
        wide = Wish(2, [], [])
        fitting = Plan(2, [], [], [], [], [])
        for value in any_values():
            if type(value) is not Plan:
                for wish, row in ((WISH, ROW), (None, None), (value, value)):
                    raised(self, InvalidPlan, lambda: Tree(value, wish, row), "value", value)
            if type(value) is not Wish:
                for row in (ROW, None, value):
                    raised(self, InvalidWish, lambda: Tree(PLAN, value, row), "value", value)
            for plan, wish in ((PLAN, WISH), (fitting, wide)):
                if good_row(value, wish.width):
                    self.assertEqual(Tree(plan, wish, value).row(), value)
                else:
                    raised(self, InvalidRow, lambda: Tree(plan, wish, value), "value", value)

    def test_plans_that_do_not_fit(self):
        for row in (ROW, None):
            raised(self, Unfit, lambda: Tree(PLAN, Wish(2, WISH.asks()[:0], []), row), "name", None)
            raised(self, Unfit, lambda: Tree(PLAN, Wish(1, [("b", TOTAL)], [("c", ADD)]), row), "name", "b")
            raised(self, Unfit, lambda: Tree(PLAN, Wish(1, [("sum", TOTAL)], [("c", ADD)]), row), "name", "c")

    def check_places(self, many, call, low, high, name_first=False):
        """Checks which of two places does not fit; `call` is called with these."""
        if not whole(low) or not 0 <= low <= many:
            raised(self, InvalidNumber, lambda: call(low, high), "value", low)
        elif high is not None and (not whole(high) or not low <= high <= many):
            raised(self, InvalidNumber, lambda: call(low, high), "value", high)
        else:
            call(low, high)

    def test_places(self):
        tree = Tree(PLAN, WISH, ROW).changed("add").changed("turn", 1)
        calls = [lambda low, high: tree.changed("add", low, high), lambda low, high: tree.part(low, high),
                 lambda low, high: tree.told("sum", low, high)]
        before = tree.row(), tree.shape(), tree.waiting(), tree.numbers()
        for value in any_values() + [4, 5, -2, "0", 1 << 70]:
            for call in calls:
                for other in (0, 2, 3, 4, None, True, "a", -1):
                    self.check_places(3, call, value, other)
                    self.check_places(3, call, other, value)
                self.check_places(3, call, value, value)
        self.assertEqual((tree.row(), tree.shape(), tree.waiting(), tree.numbers()), before)

    def test_names(self):
        tree = Tree(PLAN, WISH, ROW)
        for value in any_values() + bad_names():
            for low, high in ((0, None), (None, None), (9, 9)):
                if value != "sum":
                    raised(self, UnknownName, lambda: tree.told(value, low, high), "name", value)
                raised(self, UnknownName, lambda: tree.changed(value, low, high), "name", value)
        raised(self, UnknownName, lambda: tree.told("add"), "name", "add")
        raised(self, UnknownName, lambda: tree.changed("sum"), "name", "sum")

    def test_trees_that_do_not_fit(self):
        tree = Tree(PLAN, WISH, ROW)
        width, empty, lift, joins, changes, asks = parts_of_plan(PLAN)
        for other in (Tree(PLAN, Wish(1, [], []), ROW), Tree(PLAN, Wish(1, [], []), []), Tree(WRONG, WISH, ROW),
                      Tree(Plan(1, [1, 0, 5], lift, joins, changes, asks), WISH, []),
                      Tree(Plan(2, [], [], [], [], []), Wish(2, [], []), [])):
            raised(self, InvalidTree, lambda: tree + other, "value", other)
            raised(self, InvalidTree, lambda: other + tree, "value", tree)
        self.assertEqual((tree + Tree(Plan(*parts_of_plan(PLAN)), Wish(1, WISH.asks(), WISH.changes()), [(0,)])).row(), ROW + [(0,)])


class Independence(unittest.TestCase):
    def test_lists_that_are_changed_behind_a_call(self):
        row = list(ROW)
        tree = Tree(PLAN, WISH, row)
        row[0] = (9,)
        row.append((9,))
        self.assertEqual((tree.row(), len(tree)), (ROW, 3))
        single = [(4,)]
        tree = Tree(PLAN, WISH, single)
        single.clear()
        self.assertEqual((tree.row(), len(tree), tree.changed("add").row()), ([(4,)], 1, [(7,)]))

    def test_returned_lists_belong_to_the_caller(self):
        for tree in (Tree(PLAN, WISH, ROW).changed("add"), Tree(PLAN, WISH, []), Tree(PLAN, WISH, [(4,)])):
            told = [tree.row(), tree.numbers(), tree.waiting()]
            for one in lists_within([tree.row(), tree.numbers(), tree.waiting()])[1:]:
                one.append(5)
                one.reverse()
            self.assertEqual([tree.row(), tree.numbers(), tree.waiting()], told)
            found = lists_within([tree.row(), tree.numbers(), tree.waiting(), tree.row(), tree.numbers(), tree.waiting()])
            self.assertEqual(len(found), len({id(one) for one in found}))
        self.assertEqual(PLAN.empty(), [1, 0, 0])

    def test_arguments_by_name(self):
        tree = Tree(row=ROW, wish=WISH, plan=PLAN)
        self.assertEqual(tree.changed(high=2, name="add", low=1).row(), [(4,), (9,), (2,)])
        self.assertEqual(tree.part(high=2, low=1).row(), [(6,)])
        self.assertEqual(tree.part(high=2).row(), ROW[:2])
        self.assertEqual(tree.told(high=2, low=1, name="sum"), 6)

    def test_equal_calls_return_equal_results(self):
        for _ in range(2):
            tree = Tree(PLAN, WISH, ROW)
            later = tree.changed("turn").changed("add", 0, 2)
            self.assertEqual((later.shape(), later.story()), (tree.changed("turn").changed("add", 0, 2).shape(),
                                                              tree.changed("turn").changed("add", 0, 2).story()))


if __name__ == "__main__":
    unittest.main()
