"""[3]: trees, live trees, texts and libraries at the limits are there within seconds."""

import random
import unittest

from latesums.changes import Change
from latesums.forms import Form
from latesums.library import Library
from latesums.live import Live
from latesums.lots import lot, rank
from latesums.plans import Plan, least_plan
from latesums.stories import is_right, numbers_of, row_of
from latesums.texts import read_form, text_of
from latesums.trees import Tree
from latesums.wishes import Wish
from tests.groves import Grove
from tests.samples import some_row, timed, unlike_terms

BIG = 10 ** 20 - 1


class Trees(unittest.TestCase):
    def setUp(self):
        self.chance = random.Random(160)

    def long(self):
        return self.chance.choice([-1, 1]) * self.chance.randint(10 ** 19, BIG)

    def long_plan(self, many, wish):
        """A plan with so many numbers, all of whose tables are full of long numbers."""
        lift = [Form(wish.width, unlike_terms(self.chance, wish.width, 10, 1)) for _ in range(many)]
        joins = [[(i, j, self.long()) for i in range(many) for j in range(many)] for _ in range(many)]
        changes = [(name, [[self.long() for _ in range(many)] for _ in range(many)]) for name, _ in wish.changes()]
        return Plan(wish.width, [self.long() for _ in range(many)], lift, joins, changes,
                    [(name, [self.long() for _ in range(many)]) for name, _ in wish.asks()])

    def wish(self):
        asks = [("a", Form(2, [(9973, ((1, 0), (0, 1))), (8861, ((2, 0),)), (7, ((0, 0),))]))]
        return Wish(2, asks, [("b", Change([[1, 2], [3, -4]], [5, 6], turns=True)), ("c", Change([[2, 0], [0, 0]], [0, -7]))])

    def deeds(self, live, many):
        """Some deeds of each kind, each within seconds."""
        names = [name for name, _ in live.tree().wish.changes()]
        for at in range(many):
            low = self.chance.randint(0, len(live))
            high = self.chance.randint(low, len(live))
            if at % 6 == 5 and len(live) < 100:
                timed(self, lambda: live.put(low, some_row(self.chance, live.tree().wish.width, 1, BIG)[0]))
            elif at % 6 == 4:
                timed(self, lambda: live.move(low, high, self.chance.randint(0, len(live) - high + low)))
            elif at % 30 == 9:
                timed(self, lambda: live.drop(low, min(high, low + 1)))
            else:
                timed(self, lambda: live.change(self.chance.choice(names), low, high))

    def test_100_cells_and_60_deeds(self):
        wish = self.wish()
        live = Live(Tree(least_plan(wish), wish, some_row(self.chance, 2, 100, BIG)))
        self.deeds(live, 60)
        tree = live.tree()
        self.assertEqual(timed(self, lambda: tree.told("a")), wish.asks()[0][1].at(tree.row()))
        story = timed(self, tree.story)
        self.assertEqual(timed(self, lambda: row_of(wish, story)), tree.row())
        self.assertEqual(timed(self, lambda: numbers_of(tree.plan, wish, story)), tree.numbers())
        self.assertTrue(timed(self, lambda: live == live.copy()))
        for _ in range(60):
            live.back()
        self.assertEqual((len(live), live.log()), (100, []))

    def test_plans_full_of_long_numbers(self):
        wish = self.wish()
        plan = self.long_plan(10, wish)
        live = Live(timed(self, lambda: Tree(plan, wish, some_row(self.chance, 2, 100, BIG))))
        self.deeds(live, 20)
        timed(self, lambda: live.told("a", 3, 60))
        timed(self, lambda: live.tree() + live.tree().part(0, 0))

    def test_least_plans_of_high_ranks(self):
        low = [(0, 0), (1, 0), (0, 1)]
        words = [(one, two, three) for one in low for two in low for three in low]
        form = Form(2, [(self.chance.randint(1000, 9999), word) for word in words])
        change = Change([[1009, -2003], [3001, 4007]], [5003, 6007], turns=True)
        wish = Wish(2, [("a", form)], [("b", change), ("c", Change([[1, 1], [0, 1]], [1, 0]))])
        self.assertGreater(rank(wish), 20)
        live = Live(timed(self, lambda: Tree(least_plan(wish), wish, some_row(self.chance, 2, 60, 9999))))
        self.deeds(live, 30)
        self.assertEqual(timed(self, lambda: live.told("a")), form.at(live.tree().row()))

    def test_the_same_as_a_plain_tree_in_the_end(self):
        wish = self.wish()
        plan = least_plan(wish)
        row = some_row(self.chance, 2, 100, 9)
        grove, tree = Grove(plan, wish), Tree(plan, wish, row)
        plain = grove.made(row)
        for _ in range(60):
            low = self.chance.randint(0, 100)
            high, name = self.chance.randint(low, 100), self.chance.choice("bc")
            tree, plain = tree.changed(name, low, high), grove.changed(plain, name, low, high)
        self.assertEqual((tree.numbers(), tree.row(), tree.shape(), tree.waiting()),
                         (plain[1], grove.row(plain), grove.shape(plain), grove.waiting(plain)))

    def test_many_changes_wait(self):
        wish = self.wish()
        tree = Tree(least_plan(wish), wish, some_row(self.chance, 2, 100, 9))
        for at in range(60):
            tree = tree.changed("bc"[at % 2])
        self.assertEqual(len(tree.waiting()), 60)
        self.assertEqual(timed(self, lambda: tree.told("a", 17, 83)), wish.asks()[0][1].at(tree.row()[17:83]))

    def test_a_tree_that_is_as_deep_as_it_has_cells(self):
        wish = self.wish()
        plan = least_plan(wish)
        tree, cell = Tree(plan, wish, []), Tree(plan, wish, [(1, 2)])
        for _ in range(300):
            tree = cell + tree
        self.assertEqual(timed(self, lambda: tree.part(299)).row(), [(1, 2)])
        later = timed(self, lambda: tree.changed("b").changed("c", 299))
        self.assertEqual(len(later), 300)
        self.assertEqual(later.told("a"), wish.asks()[0][1].at(later.row()))
        self.assertEqual(row_of(wish, later.story()), later.row())


class Texts(unittest.TestCase):
    def test_5000_signs(self):
        for text, width in ((" + ".join(["12 [x^2 y, 1, y x]"] * 238), 2), ("1 [" + ", ".join(["x"] * 1665) + "]", 1),
                            ("1 [" + " ".join(["x"] * 2498) + "]", 1), ("1 []+" * 999 + "1 []", 1), (" " * 4999 + "0", 1),
                            ("1 [x^" + "9" * 400 + "]" + "\n" * 4594, 1), ("9" * 400 + " [] + " + "8" * 400 + " [x]", 2)):
            self.assertLessEqual(len(text), 5000)
            form = timed(self, lambda: read_form(text, width))
            again = timed(self, lambda: text_of(form))
            self.assertEqual(timed(self, lambda: read_form(again, width)), form)

    def test_texts_of_returned_forms(self):
        chance = random.Random(161)
        one, other = [Form(2, unlike_terms(chance, 2, 40, 3)) for _ in range(2)]
        self.assertGreater(len(timed(self, lambda: text_of(one * other))), 1000)


class Libraries(unittest.TestCase):
    def test_40_wishes(self):
        chance, library = random.Random(162), Library()
        total, squares = Form(1, [(1, ((1,),))]), Form(1, [(1, ((2,),))])
        names = [one + other for one in "abcdefgh" for other in "vwxyz"]
        for at, name in enumerate(names):
            asks = [("a", total)] if at % 4 else [("a", squares)]
            library.put(name, Wish(1, asks[at % 3:], [("b", Change([[chance.randint(1000, 9999)]], [0]))]))
        self.assertLessEqual(sum(rank(library.wish_of(name)) for name in names), 60)
        for name in names[:6]:
            wish = library.wish_of(name)
            plan = least_plan(wish)
            found = timed(self, lambda: library.kept_by(plan))
            self.assertIn(name, found)
            self.assertEqual(found, [name for name in names if dict(plan.asks()).keys() >= dict(library.wish_of(name).asks()).keys()
                                     and is_right(plan, library.wish_of(name))])
            self.assertIn(name, timed(self, lambda: library.same_lot(wish)))

    def test_two_wishes_of_rank_30(self):
        low = [(0, 0), (1, 0), (0, 1)]
        words = [(one, two, three) for one in low for two in low for three in low]
        form = Form(2, [(997 + 13 * at, word) for at, word in enumerate(words)])
        change = Change([[1009, -2003], [3001, 4007]], [5003, 6007], turns=True)
        one, other = Wish(2, [("a", form)], [("b", change)]), Wish(2, [("a", 3 * form)], [("b", change)])
        self.assertLessEqual(rank(one), 30)
        library = Library()
        library.put("one", one)
        library.put("other", other)
        self.assertEqual(timed(self, lambda: library.same_lot(Wish(2, [("c", form)], [("d", change)]))), ["one", "other"])
        self.assertEqual(timed(self, lambda: library.kept_by(least_plan(one))), ["one"])
        self.assertEqual(timed(self, lambda: library.kept_by(least_plan(other))), ["other"])
        self.assertEqual(timed(self, lambda: library.same_lot(Wish(2, [("c", lot(one)[1])], []))), [])


if __name__ == "__main__":
    unittest.main()
