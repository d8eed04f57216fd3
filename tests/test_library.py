"""[90] to [92]: libraries."""

import random
import unittest

from latesums.changes import Change
from latesums.errors import InvalidName, InvalidPlan, InvalidWish, NothingToUndo, TakenName, UnknownName
from latesums.forms import Form
from latesums.library import Library
from latesums.lots import lot, rank
from latesums.plans import Plan, least_plan
from latesums.stories import is_right
from latesums.wishes import Wish
from tests.oracles import FormSpan, some_wish
from tests.samples import any_values, bad_names, good_name, lists_within, raised
from tests.tellers import parts_of_plan, slightly_other
from tests.test_trees import PLAN, WISH, WRONG

TOTAL, MANY, SQUARES = Form(1, [(1, ((1,),))]), Form(1, [(1, ((0,),))]), Form(1, [(1, ((2,),))])
ADD, DOUBLE = Change([[1]], [3]), Change([[2]], [0])
ONE, TWO = Wish(1, [("a", TOTAL)], []), Wish(2, [], [])


def state(library):
    """All that can be asked of a library."""
    return library.names(), [library.wish_of(name) for name in library.names()], len(library), library.log()


class Libraries(unittest.TestCase):
    def test_put_change_and_drop(self):
        library = Library()
        self.assertEqual(state(library), ([], [], 0, []))
        self.assertIs(library.put("b", ONE), None)
        self.assertIs(library.put("a", TWO), None)
        self.assertEqual((library.names(), len(library)), (["a", "b"], 2))
        self.assertEqual((library.wish_of("a"), library.wish_of("b")), (TWO, ONE))
        self.assertIs(library.change("a", WISH), None)
        self.assertEqual(library.wish_of("a"), WISH)
        self.assertIs(library.drop("b"), None)
        self.assertEqual((library.names(), "a" in library, "b" in library), (["a"], True, False))
        library.put("b", TWO)
        self.assertEqual(library.log(), [("put", "b"), ("put", "a"), ("change", "a"), ("drop", "b"), ("put", "b")])

    def test_back(self):
        library = Library()
        raised(self, NothingToUndo, library.back)
        seen = []
        for deed in (lambda: library.put("b", ONE), lambda: library.put("a", TWO), lambda: library.change("b", WISH),
                     lambda: library.change("b", WISH), lambda: library.drop("b"), lambda: library.put("b", TWO),
                     lambda: library.drop("a"), lambda: library.drop("b")):
            seen.append(state(library))
            deed()
        while seen:
            self.assertIs(library.back(), None)
            self.assertEqual(state(library), seen.pop())
        raised(self, NothingToUndo, library.back)
        library.put("a", ONE)
        self.assertEqual(state(library), (["a"], [ONE], 1, [("put", "a")]))

    def test_any_steps(self):
        chance = random.Random(140)
        wishes = [ONE, TWO, WISH, Wish(1, [], [("x", ADD)])]
        for _ in range(30):
            library, states, log = Library(), [{}], []
            for _ in range(40):
                kept, name, wish = dict(states[-1]), chance.choice(["a", "b", "cc", "z"]), chance.choice(wishes)
                kind = chance.choice(["put", "drop", "change", "back"])
                if kind == "back":
                    if log:
                        library.back()
                        states.pop()
                        log.pop()
                    else:
                        raised(self, NothingToUndo, library.back)
                elif kind == "put" and name not in kept or kind != "put" and name in kept:
                    getattr(library, kind)(*[name] + [wish] * (kind != "drop"))
                    kept[name] = wish
                    if kind == "drop":
                        kept.pop(name)
                    states.append(kept)
                    log.append((kind, name))
                self.assertEqual(state(library), (sorted(states[-1]), [states[-1][each] for each in sorted(states[-1])],
                                                  len(states[-1]), log))

    def test_in(self):
        library = Library()
        library.put("a", ONE)
        for value in any_values() + bad_names() + ["b", ONE, library]:
            self.assertIs(value in library, value == "a")
            self.assertIs(value not in library, value != "a")

    def test_copies_go_their_own_ways(self):
        library = Library()
        library.put("a", ONE)
        library.put("b", TWO)
        other = library.copy()
        self.assertIs(type(other), Library)
        self.assertIs(library == other, True)
        self.assertEqual(state(library), state(other))
        other.drop("a")
        library.put("c", WISH)
        self.assertEqual((library.names(), other.names()), (["a", "b", "c"], ["b"]))
        other.back()
        other.back()
        other.back()
        raised(self, NothingToUndo, other.back)
        self.assertEqual((library.names(), library.log()), (["a", "b", "c"], [("put", "a"), ("put", "b"), ("put", "c")]))

    def test_equality(self):
        one, other = Library(), Library()
        self.assertIs(one == other, True)
        one.put("a", ONE)
        one.put("b", TWO)
        self.assertIs(one == other, False)
        other.put("b", Wish(2, [], []))
        other.put("a", TWO)
        self.assertIs(one == other, False)
        other.change("a", Wish(1, [("a", TOTAL)], []))
        self.assertIs(one == other, True)
        self.assertIs(one != other, False)
        other.drop("a")
        other.put("c", ONE)
        self.assertIs(one == other, False)
        for value in any_values() + [ONE, ["a", "b"], {"a": ONE, "b": TWO}]:
            self.assertIs(one == value, False)
            self.assertIs(one != value, True)
            self.assertIs(value == one, False)

    def test_lists_belong_to_the_caller(self):
        library = Library()
        library.put("a", WISH)
        before = state(library)
        calls = [library.names, library.log, lambda: library.kept_by(PLAN), lambda: library.same_lot(WISH)]
        for call in calls:
            self.assertEqual(len(call()), 1)
            call().clear()
            self.assertEqual(len(call()), 1)
        self.assertEqual(state(library), before)
        found = lists_within([call() for call in calls + calls])
        self.assertEqual(len(found), len({id(one) for one in found}))

    def test_40_wishes(self):
        library = Library()
        names = [one + other for one in "abcdefgh" for other in "vwxyz"]
        for at, name in enumerate(reversed(names)):
            library.put(name, Wish(1, [("a", at * TOTAL)], []))
        self.assertEqual((library.names(), len(library)), (names, 40))
        self.assertEqual(len(library.same_lot(ONE)), 39)
        for _ in range(40):
            library.back()
        self.assertEqual(library.names(), [])

    def test_arguments_by_name(self):
        library = Library()
        library.put(wish=ONE, name="a")
        library.change(wish=WISH, name="a")
        self.assertEqual((library.wish_of(name="a"), library.kept_by(plan=PLAN), library.same_lot(wish=WISH)), (WISH, ["a"], ["a"]))
        library.drop(name="a")
        self.assertEqual(len(library), 0)


class KeptBy(unittest.TestCase):
    def test_plans_that_fit_and_are_right(self):
        library = Library()
        for name, wish in (("right", WISH), ("wide", TWO), ("name", Wish(1, [("a", TOTAL)], [])), ("none", Wish(1, [], [])),
                           ("change", Wish(1, [("sum", TOTAL)], [("a", ADD)])), ("wrong", Wish(1, [("sum", MANY)], [])),
                           ("few", Wish(1, [("sum", TOTAL)], [("turn", WISH.changes()[1][1])])),
                           ("other", Wish(1, [("sum", TOTAL)], [("add", DOUBLE)]))):
            library.put(name, wish)
        self.assertEqual(library.kept_by(PLAN), ["few", "none", "right"])
        self.assertEqual(library.kept_by(WRONG), ["none"])
        self.assertEqual(library.kept_by(Plan(2, [], [], [], [], [])), ["wide"])
        width, empty, lift, joins, changes, asks = parts_of_plan(PLAN)
        self.assertEqual(library.kept_by(Plan(1, [1, 0, 5], lift, joins, changes, asks)), ["none"])
        self.assertEqual(Library().kept_by(PLAN), [])

    def test_any_plans(self):
        chance = random.Random(141)
        for _ in range(20):
            library, wishes = Library(), [some_wish(chance, 2) for _ in range(4)]
            for name, wish in zip("dbca", wishes):
                library.put(name, wish)
            for wish in wishes:
                plan = slightly_other(chance, least_plan(wish))
                expected = []
                for name in "abcd":
                    other = library.wish_of(name)
                    fits = other.width == plan.width and {name for name, _ in other.asks()} <= set(dict(plan.asks()))
                    if fits and {name for name, _ in other.changes()} <= set(dict(plan.changes())) and is_right(plan, other):
                        expected.append(name)
                self.assertEqual(library.kept_by(plan), expected)


class SameLots(unittest.TestCase):
    def test_some_lots(self):
        library = Library()
        for name, wish in (("sums", ONE), ("many", Wish(1, [("b", 5 * TOTAL)], [])), ("more", Wish(1, [("a", TOTAL)], [("b", ADD)])),
                           ("wide", Wish(2, [("a", Form(2, [(1, ((1, 0),))]))], [])), ("none", Wish(1, [], [("b", ADD)])),
                           ("empty", Wish(1, [("a", Form(1, []))], [])), ("squares", Wish(1, [("a", SQUARES)], [])),
                           ("two", Wish(1, [("a", MANY), ("b", TOTAL - MANY)], [])), ("nothing", TWO)):
            library.put(name, wish)
        self.assertEqual(library.same_lot(ONE), ["many", "sums"])
        self.assertEqual(library.same_lot(Wish(1, [("c", -7 * TOTAL)], [("x", DOUBLE)])), ["many", "sums"])
        self.assertEqual(library.same_lot(Wish(1, [("a", 2 * TOTAL + 3 * MANY), ("b", TOTAL)], [])), ["more", "two"])
        self.assertEqual(library.same_lot(Wish(1, [], [])), ["empty", "none"])
        self.assertEqual(library.same_lot(TWO), ["nothing"])
        self.assertEqual(library.same_lot(Wish(1, [("a", TOTAL + MANY)], [])), [])
        self.assertEqual(library.same_lot(Wish(2, [("a", Form(2, [(3, ((1, 0),))]))], [])), ["wide"])
        self.assertEqual(Library().same_lot(ONE), [])

    def test_any_lots(self):
        chance = random.Random(142)
        for _ in range(15):
            library = Library()
            for name in "abcdef":
                library.put(name, some_wish(chance, 1))
            for wish in [library.wish_of(name) for name in "abc"] + [some_wish(chance, 1) for _ in range(3)]:
                expected = []
                for name in "abcdef":
                    other, span = library.wish_of(name), FormSpan()
                    for form in lot(other) if other.width == wish.width else []:
                        span.add(form)
                    if other.width == wish.width and rank(other) == rank(wish) and all(span.has(form) for form in lot(wish)):
                        expected.append(name)
                self.assertEqual(library.same_lot(wish), expected)


class LibraryErrors(unittest.TestCase):
    def setUp(self):
        self.library = Library()
        self.library.put("a", ONE)

    def check(self, call, kind, field, holds):
        before = state(self.library)
        raised(self, kind, call, field, holds)
        self.assertEqual(state(self.library), before)

    def test_names(self):
        for value in any_values() + bad_names() + ["a", "b", "abcdefgh", "abcdefghi"]:
            for wish in (ONE, None, value):
                if not good_name(value):
                    self.check(lambda: self.library.put(value, wish), InvalidName, "name", value)
                elif value == "a":
                    self.check(lambda: self.library.put(value, wish), TakenName, "name", value)
                if value != "a":
                    self.check(lambda: self.library.drop(value), UnknownName, "name", value)
                    self.check(lambda: self.library.wish_of(value), UnknownName, "name", value)
                    self.check(lambda: self.library.change(value, wish), UnknownName, "name", value)

    def test_wishes_and_plans(self):
        for value in any_values():
            if type(value) is not Wish:
                self.check(lambda: self.library.put("b", value), InvalidWish, "value", value)
                self.check(lambda: self.library.change("a", value), InvalidWish, "value", value)
                self.check(lambda: self.library.same_lot(value), InvalidWish, "value", value)
                raised(self, InvalidWish, lambda: Library().same_lot(value), "value", value)
            if type(value) is not Plan:
                self.check(lambda: self.library.kept_by(value), InvalidPlan, "value", value)
                raised(self, InvalidPlan, lambda: Library().kept_by(value), "value", value)


if __name__ == "__main__":
    unittest.main()
