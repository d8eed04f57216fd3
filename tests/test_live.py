"""[70] to [72]: live trees."""

import random
import unittest

from latesums.errors import (InvalidCell, InvalidName, InvalidNumber, InvalidTree, NothingToUndo, TakenName, UnknownName)
from latesums.live import Live
from latesums.trees import Tree
from tests.groves import Grove
from tests.samples import any_values, bad_names, good_cell, good_name, lists_within, raised, some_row, whole
from tests.test_trees import PLAN, ROW, WISH, WRONG, TreeCase

TREE = Tree(PLAN, WISH, ROW)


def state(live):
    """All that can be asked of a live tree."""
    tree = live.tree()
    return (tree.row(), tree.numbers(), tree.waiting(), tree.shape(), len(live), live.log(), live.kept(),
            [live.edition(name).shape() for name in live.kept()])


class Deeds(TreeCase):
    def test_each_deed(self):
        live = Live(TREE)
        self.assertIs(type(live.tree()), Tree)
        self.assertEqual((live.tree(), len(live), live.told("sum"), live.told("sum", 1), live.told("sum", 0, 1)), (TREE, 3, 12, 8, 4))
        self.assertIs(live.change("add", 1), None)
        self.assertEqual((live.tree().row(), live.told("sum", 1, 2)), ([(4,), (9,), (5,)], 9))
        self.assertIs(live.put(1, (7,)), None)
        self.assertEqual(live.tree().row(), [(4,), (7,), (9,), (5,)])
        self.assertIs(live.drop(2, 3), None)
        self.assertEqual((live.tree().row(), len(live)), ([(4,), (7,), (5,)], 3))
        self.assertIs(live.move(0, 1, 2), None)
        self.assertEqual(live.tree().row(), [(7,), (5,), (4,)])
        self.assertIs(live.keep("x"), None)
        self.assertIs(live.change("turn"), None)
        self.assertIs(live.go("x"), None)
        self.assertEqual(live.tree().row(), [(7,), (5,), (4,)])
        self.assertEqual(live.log(), [("change", "add", 1, 3), ("put", 1, (7,)), ("drop", 2, 3), ("move", 0, 1, 2),
                                      ("change", "turn", 0, 3), ("go", "x")])

    def test_to_the_beginning_and_no_further(self):
        live = Live(TREE)
        raised(self, NothingToUndo, live.back)
        live.change("add")
        live.keep("a")
        live.put(0, (1,))
        live.go("a")
        live.drop(0, 0)
        for row in ([(7,), (9,), (5,)], [(1,), (7,), (9,), (5,)], [(7,), (9,), (5,)], ROW):
            self.assertIs(live.back(), None)
            self.assertEqual(live.tree().row(), row)
        self.assertEqual((live.log(), live.kept()), ([], ["a"]))
        raised(self, NothingToUndo, live.back)
        self.assertEqual(live.edition("a").row(), [(7,), (9,), (5,)])
        live.go("a")
        self.assertEqual(live.log(), [("go", "a")])

    def test_shapes_as_the_deeds_make_them(self):
        live = Live(TREE)
        live.put(3, (1,))
        self.assertEqual(live.tree().shape(), "((.(..)).)")
        live.back()
        live.put(0, (1,))
        self.assertEqual(live.tree().shape(), "(.(.(..)))")
        live.back()
        live.put(1, (1,))
        self.assertEqual(live.tree().shape(), "((..)(..))")
        live.back()
        live.drop(1, 2)
        self.assertEqual(live.tree().shape(), "(..)")
        live.drop(0, 2)
        self.assertEqual((live.tree().shape(), len(live)), ("", 0))
        live.put(0, (8,))
        self.assertEqual((live.tree().shape(), live.tree().row()), (".", [(8,)]))

    def test_deeds_without_cells_cut_and_join(self):
        for plan in (PLAN, WRONG):
            grove, tree = Grove(plan, WISH), Tree(plan, WISH, [(at,) for at in range(6)]).changed("turn")
            plain = grove.change(grove.made([(at,) for at in range(6)]), "turn")
            for at in range(7):
                live = Live(tree)
                live.drop(at, at)
                self.check_tree(grove, live.tree(), grove.drop(plain, at, at))
                for place in range(7):
                    live = Live(tree)
                    live.move(at, at, place)
                    self.check_tree(grove, live.tree(), grove.move(plain, at, at, place))
                    self.assertEqual(live.tree().row(), tree.row())

    def test_any_deeds(self):
        chance = random.Random(130)
        for _ in range(60):
            wish, plan = self.some_plan(chance)
            row = some_row(chance, wish.width, chance.randint(0, 8), 3)
            grove, live = Grove(plan, wish), Live(Tree(plan, wish, row))
            trees, log, kept = [grove.made(row)], [], {}
            for _ in range(20):
                self.do_some(chance, grove, live, trees, log, kept)
                self.check_tree(grove, live.tree(), trees[-1])
                self.assertEqual(len(live), grove.size(trees[-1]))
                self.assertEqual((live.log(), live.kept()), (log, sorted(kept)))
                for name, tree in kept.items():
                    self.check_tree(grove, live.edition(name), tree)

    def do_some(self, chance, grove, live, trees, log, kept):
        """Does one deed in a live tree and in plain ones."""
        plain, many, kind = trees[-1], grove.size(trees[-1]), chance.randint(0, 8)
        low = chance.randint(0, many)
        high = chance.randint(low, many)
        names = [name for name, _ in grove.wish.changes()]
        if kind <= 1 and names:
            name, end = chance.choice(names), chance.choice([None, high])
            live.change(name, low, end)
            trees.append(grove.changed(plain, name, low, end))
            log.append(("change", name, low, many if end is None else end))
        elif kind <= 3:
            cell = some_row(chance, grove.wish.width, 1, 3)[0]
            live.put(low, cell)
            trees.append(grove.put(plain, low, cell))
            log.append(("put", low, cell))
        elif kind == 4:
            live.drop(low, high)
            trees.append(grove.drop(plain, low, high))
            log.append(("drop", low, high))
        elif kind == 5:
            at = chance.randint(0, many - high + low)
            live.move(low, high, at)
            trees.append(grove.move(plain, low, high, at))
            log.append(("move", low, high, at))
        elif kind == 6 and len(kept) < 3:
            name = chance.choice([name for name in ("b", "a", "zz") if name not in kept])
            live.keep(name)
            kept[name] = plain
        elif kind == 7 and kept:
            name = chance.choice(sorted(kept))
            live.go(name)
            trees.append(kept[name])
            log.append(("go", name))
        elif kind == 8 and log:
            live.back()
            trees.pop()
            log.pop()


class Keeping(unittest.TestCase):
    def test_names_in_order(self):
        live = Live(TREE)
        for name in ("m", "zzzzzzzz", "a", "ab", "b"):
            live.keep(name)
        self.assertEqual(live.kept(), ["a", "ab", "b", "m", "zzzzzzzz"])
        self.assertEqual(live.log(), [])
        raised(self, NothingToUndo, live.back)

    def test_names_that_are_none_kept_or_not_kept(self):
        live = Live(TREE)
        live.keep("a")
        live.change("add")
        before = state(live)
        for value in any_values() + bad_names() + ["a", "b", "abcdefgh", "abcdefghi"]:
            if not good_name(value):
                raised(self, InvalidName, lambda: live.keep(value), "name", value)
            if value == "a" and type(value) is str:
                raised(self, TakenName, lambda: live.keep(value), "name", value)
            else:
                raised(self, UnknownName, lambda: live.edition(value), "name", value)
                raised(self, UnknownName, lambda: live.go(value), "name", value)
        self.assertEqual(state(live), before)
        self.assertEqual(live.edition("a").row(), ROW)

    def test_what_is_kept_stays(self):
        live = Live(TREE)
        live.change("add")
        live.keep("a")
        live.back()
        self.assertEqual(live.kept(), ["a"])
        raised(self, TakenName, lambda: live.keep("a"), "name", "a")
        live.go("a")
        self.assertEqual(live.tree().waiting(), ["add"])
        live.back()
        self.assertEqual(live.tree().row(), ROW)


class Copies(unittest.TestCase):
    def test_copies_go_their_own_ways(self):
        live = Live(TREE)
        live.change("add", 0, 2)
        live.keep("a")
        other = live.copy()
        self.assertIs(type(other), Live)
        self.assertIs(live == other, True)
        before = state(live)
        other.put(0, (1,))
        other.keep("b")
        self.assertEqual(state(live), before)
        self.assertIs(live == other, False)
        later = state(other)
        live.back()
        live.keep("c")
        self.assertEqual(state(other), later)
        other.back()
        other.back()
        raised(self, NothingToUndo, other.back)
        self.assertEqual((other.tree().row(), other.kept()), (ROW, ["a", "b"]))

    def test_equality(self):
        one, other = Live(TREE), Live(Tree(PLAN, WISH, ROW[:2]) + Tree(PLAN, WISH, ROW[2:]))
        self.assertIs(one == other, True)
        self.assertIs(one != other, False)
        one.put(0, (1,))
        self.assertIs(one == other, False)
        other.put(0, (1,))
        self.assertIs(one == other, True)
        # Equal trees by unlike deeds.
        one.change("turn")
        one.change("turn")
        self.assertIs(one == other, False)
        one.back()
        one.back()
        one.keep("a")
        self.assertIs(one == other, False)
        other.keep("b")
        self.assertIs(one == other, False)
        other.keep("a")
        self.assertIs(one == other, False)
        one.keep("b")
        self.assertIs(one == other, True)
        one.change("turn")
        other.change("turn")
        one.keep("c")
        other.back()
        other.keep("c")
        other.change("turn")
        self.assertIs(one == other, False)

    def test_logs_of_as_many_deeds_that_lead_to_equal_trees(self):
        deeds = [lambda live: live.drop(0, 0), lambda live: live.drop(1, 1), lambda live: live.change("add", 1, 1),
                 lambda live: live.change("turn", 1, 1), lambda live: live.move(1, 2, 1), lambda live: live.go("a")]
        for one, deed in enumerate(deeds):
            for other, another in enumerate(deeds):
                lives = Live(TREE), Live(TREE)
                for live in lives:
                    live.keep("a")
                deed(lives[0])
                another(lives[1])
                self.assertEqual(lives[0].tree(), lives[1].tree())
                self.assertIs(lives[0] == lives[1], one == other)

    def test_one_log_written_in_two_ways(self):
        one, other = Live(TREE), Live(TREE)
        one.change("add", 1)
        other.change("add", 1, 3)
        self.assertIs(one == other, True)

    def test_not_equal_to_any_other_object(self):
        live = Live(TREE)
        for value in any_values() + [TREE, ROW, live.tree()]:
            self.assertIs(live == value, False)
            self.assertIs(value == live, False)


class LiveErrors(unittest.TestCase):
    def setUp(self):
        self.live = Live(TREE)
        self.live.change("add", 1)
        self.live.keep("a")

    def check(self, call, kind, holds):
        """Checks the error of a call, which changes nothing; without a kind that there is none."""
        before = state(self.live)
        if kind is None:
            call()
            self.live.back()
        else:
            raised(self, kind, call, "name" if kind is UnknownName else "value", holds)
        self.assertEqual(state(self.live), before)

    def test_values_that_are_no_trees(self):
        for value in any_values() + [ROW, self.live]:
            if type(value) is Tree:
                self.assertIs(Live(value).tree(), value)
            else:
                raised(self, InvalidTree, lambda: Live(value), "value", value)

    def place(self, value, low, high):
        return whole(value) and low <= value <= high

    def test_put(self):
        values = any_values() + [-1, 3, 4, (5,)]
        for value in values:
            for cell in ((1,), (1, 2), None):
                kind = InvalidNumber if not self.place(value, 0, 3) else None if cell == (1,) else InvalidCell
                self.check(lambda: self.live.put(value, cell), kind, value if kind is InvalidNumber else cell)
            for at in (0, 3, 4):
                kind = InvalidNumber if at == 4 else None if good_cell(value, 1) else InvalidCell
                self.check(lambda: self.live.put(at, value), kind, at if at == 4 else value)

    def test_drop_and_move(self):
        for value in any_values() + [-1, 3, 4, 5]:
            for other in (0, 1, 3, 4, None, True):
                for low, high in ((value, other), (other, value), (value, value)):
                    self.check_taken(low, high)
            for low, high in ((1, 2), (0, 3), (3, 3), (0, 0)):
                left = 3 - high + low
                kind = None if self.place(value, 0, left) else InvalidNumber
                self.check(lambda: self.live.move(low, high, value), kind, value)

    def check_taken(self, low, high):
        kind, holds = None, None
        if not self.place(low, 0, 3):
            kind, holds = InvalidNumber, low
        elif not self.place(high, low, 3):
            kind, holds = InvalidNumber, high
        self.check(lambda: self.live.drop(low, high), kind, holds)
        self.check(lambda: self.live.move(low, high, 0), kind, holds)
        self.check(lambda: self.live.move(low, high, None), InvalidNumber, None if kind is None else holds)

    def test_change_and_told(self):
        for value in any_values() + bad_names() + ["add", "turn", "sum", 3, 4]:
            for low, high in ((0, None), (None, None), (9, 9), (0, 3)):
                if value not in ("add", "turn") or type(value) is not str:
                    self.check(lambda: self.live.change(value, low, high), UnknownName, value)
                if value != "sum":
                    raised(self, UnknownName, lambda: self.live.told(value, low, high), "name", value)
            for other in (0, 1, 3, 4, None):
                for low, high in ((value, other), (other, value)):
                    kind, holds = None, None
                    if not self.place(low, 0, 3):
                        kind, holds = InvalidNumber, low
                    elif high is not None and not self.place(high, low, 3):
                        kind, holds = InvalidNumber, high
                    self.check(lambda: self.live.change("add", low, high), kind, holds)
                    if kind is None:
                        self.assertEqual(self.live.told("sum", low, high), self.live.tree().told("sum", low, high))
                    else:
                        raised(self, kind, lambda: self.live.told("sum", low, high), "value", holds)

    def test_lists_belong_to_the_caller(self):
        before = state(self.live)
        for one in lists_within([self.live.log(), self.live.kept()]):
            one.append(5)
        self.live.log().clear()
        self.assertEqual(state(self.live), before)
        found = lists_within([self.live.log(), self.live.kept(), self.live.log(), self.live.kept()])
        self.assertEqual(len(found), len({id(one) for one in found}))

    def test_arguments_by_name(self):
        live = Live(tree=TREE)
        live.change(high=2, low=1, name="add")
        live.put(cell=(1,), at=0)
        live.move(at=0, high=4, low=3)
        live.drop(high=1, low=0)
        live.keep(name="a")
        live.go(name="a")
        self.assertEqual((live.edition(name="a").row(), live.told(high=1, low=0, name="sum")), ([(1,), (4,), (9,)], 1))


if __name__ == "__main__":
    unittest.main()
