"""The interface: names, parameters, and where things are defined ([1])."""

import inspect
import unittest

from latesums import (changes, contexts, errors, forms, library, live, lots, plans, steady, stories, texts, trees,
                      wishes)
from tests.samples import NAME_ERRORS, VALUE_ERRORS

FUNCTIONS = [
    (forms.is_cell, "latesums.forms", "(value, width)"),
    (forms.is_row, "latesums.forms", "(value, width)"),
    (lots.rank, "latesums.lots", "(wish)"),
    (lots.in_lot, "latesums.lots", "(wish, form)"),
    (lots.lot, "latesums.lots", "(wish)"),
    (lots.worths, "latesums.lots", "(forms, row)"),
    (plans.least_plan, "latesums.plans", "(wish)"),
    (stories.row_of, "latesums.stories", "(wish, story)"),
    (stories.numbers_of, "latesums.stories", "(plan, wish, story)"),
    (stories.is_right, "latesums.stories", "(plan, wish)"),
    (stories.wrong_story, "latesums.stories", "(plan, wish)"),
    (stories.is_paper, "latesums.stories", "(plan, wish, stories)"),
    (stories.paper, "latesums.stories", "(plan, wish)"),
    (steady.unsteady, "latesums.steady", "(plan, wish)"),
    (contexts.row_behind, "latesums.contexts", "(wish, row, steps)"),
    (contexts.told_apart, "latesums.contexts", "(wish, one, other)"),
    (contexts.alike, "latesums.contexts", "(wish, one, other)"),
    (contexts.apart, "latesums.contexts", "(wish, one, other)"),
    (contexts.swaps, "latesums.contexts", "(wish)"),
    (contexts.loses, "latesums.contexts", "(wish, name)"),
    (texts.text_of, "latesums.texts", "(form)"),
    (texts.read_form, "latesums.texts", "(text, width)"),
]
METHODS = [
    (forms.Form, "latesums.forms", {
        "__init__": "(self, width, terms)", "terms": "(self)", "at": "(self, row)", "with_first": "(self, cell)",
        "with_last": "(self, cell)", "changed": "(self, change)", "__eq__": "(self, other)",
        "__add__": "(self, other)", "__sub__": "(self, other)", "__mul__": "(self, other)"}),
    (changes.Change, "latesums.changes", {
        "__init__": "(self, matrix, offsets, *, turns=False)", "matrix": "(self)", "offsets": "(self)",
        "row": "(self, row)", "then": "(self, other)", "__eq__": "(self, other)"}),
    (wishes.Wish, "latesums.wishes", {
        "__init__": "(self, width, asks, changes)", "asks": "(self)", "changes": "(self)", "__eq__": "(self, other)"}),
    (plans.Plan, "latesums.plans", {
        "__init__": "(self, width, empty, lift, joins, changes, asks)", "empty": "(self)", "lift": "(self)",
        "joins": "(self)", "changes": "(self)", "asks": "(self)", "__len__": "(self)", "__eq__": "(self, other)"}),
    (trees.Tree, "latesums.trees", {
        "__init__": "(self, plan, wish, row)", "changed": "(self, name, low=0, high=None)",
        "part": "(self, low=0, high=None)", "__add__": "(self, other)", "row": "(self)", "__len__": "(self)",
        "numbers": "(self)", "waiting": "(self)", "shape": "(self)", "told": "(self, name, low=0, high=None)",
        "story": "(self)", "__eq__": "(self, other)"}),
    (live.Live, "latesums.live", {
        "__init__": "(self, tree)", "tree": "(self)", "__len__": "(self)", "told": "(self, name, low=0, high=None)",
        "change": "(self, name, low=0, high=None)", "put": "(self, at, cell)", "drop": "(self, low, high)",
        "move": "(self, low, high, at)", "keep": "(self, name)", "kept": "(self)", "edition": "(self, name)",
        "go": "(self, name)", "back": "(self)", "log": "(self)", "copy": "(self)", "__eq__": "(self, other)"}),
    (library.Library, "latesums.library", {
        "__init__": "(self)", "put": "(self, name, wish)", "drop": "(self, name)", "change": "(self, name, wish)",
        "wish_of": "(self, name)", "names": "(self)", "kept_by": "(self, plan)", "same_lot": "(self, wish)",
        "back": "(self)", "log": "(self)", "copy": "(self)", "__len__": "(self)", "__contains__": "(self, name)",
        "__eq__": "(self, other)"}),
]


class Interface(unittest.TestCase):
    def test_functions(self):
        for function, module, signature in FUNCTIONS:
            self.assertEqual(function.__module__, module)
            self.assertEqual(str(inspect.signature(function)), signature)

    def test_methods_stand_in_the_class_itself(self):
        for kind, module, methods in METHODS:
            self.assertEqual(kind.__module__, module)
            for name, signature in methods.items():
                with self.subTest(kind=kind.__name__, name=name):
                    self.assertIn(name, vars(kind))
                    self.assertEqual(str(inspect.signature(vars(kind)[name])), signature)

    def test_attributes_are_set_when_an_object_is_created(self):
        self.assertEqual(vars(forms.Form(2, []))["width"], 2)
        change = changes.Change([[1]], [0])
        self.assertEqual((vars(change)["width"], vars(change)["turns"]), (1, False))
        for form in (forms.Form(2, []) + forms.Form(2, []), -forms.Form(2, []), 2 * forms.Form(2, [])):
            self.assertEqual(vars(form)["width"], 2)
        wish = wishes.Wish(2, [("a", forms.Form(2, [(1, ())]))], [])
        self.assertEqual(vars(wish)["width"], 2)
        self.assertEqual(vars(plans.Plan(2, [], [], [], [], []))["width"], 2)
        self.assertEqual(vars(plans.least_plan(wish))["width"], 2)
        self.assertEqual([vars(form)["width"] for form in lots.lot(wish)], [2])
        plan = plans.least_plan(wish)
        tree = trees.Tree(plan, wish, [(1, 2)])
        for one in (tree, tree.part(0, 0), tree + tree, live.Live(tree).tree()):
            self.assertEqual((vars(one)["plan"], vars(one)["wish"]), (plan, wish))

    def test_errors(self):
        for name in VALUE_ERRORS + NAME_ERRORS:
            field = "value" if name in VALUE_ERRORS else "name"
            self.assertEqual(str(inspect.signature(getattr(errors, name))), "(" + field + "=None)")

    def test_arguments_by_name(self):
        form = forms.Form(terms=[(2, ((1,),))], width=1)
        change = changes.Change(offsets=[1], matrix=[[3]], turns=True)
        self.assertEqual(form, forms.Form(1, [(2, ((1,),))]))
        self.assertEqual(form.at(row=[(5,)]), 10)
        self.assertEqual(form.with_first(cell=(5,)), form.with_first((5,)))
        self.assertEqual(form.with_last(cell=(5,)), form.with_last((5,)))
        self.assertEqual(form.changed(change=change), form.changed(change))
        self.assertEqual(change.row(row=[(1,), (2,)]), [(7,), (4,)])
        self.assertEqual(change.then(other=change), change.then(change))
        self.assertIs(forms.is_cell(width=1, value=(1,)), True)
        self.assertIs(forms.is_row(width=1, value=[(1,)]), True)

    def test_arguments_of_wishes_lots_and_plans_by_name(self):
        form, change = forms.Form(1, [(1, ((1,),))]), changes.Change([[2]], [3])
        wish = wishes.Wish(changes=[("b", change)], asks=[("a", form)], width=1)
        self.assertEqual(wish, wishes.Wish(1, [("a", form)], [("b", change)]))
        self.assertEqual(lots.rank(wish=wish), 3)
        self.assertIs(lots.in_lot(form=form, wish=wish), True)
        self.assertEqual(len(lots.lot(wish=wish)), 3)
        self.assertEqual(lots.worths(row=[(1,), (2,)], forms=[form]), [3])
        plan = plans.Plan(asks=[("a", [1])], changes=[("b", [[2]])], joins=[[(0, 0, 3)]], lift=[form], empty=[4], width=1)
        self.assertEqual(plan, plans.Plan(1, [4], [form], [[(0, 0, 3)]], [("b", [[2]])], [("a", [1])]))
        self.assertEqual(len(plans.least_plan(wish=wish)), 3)

    def test_turns_only_by_name(self):
        with self.assertRaises(TypeError):
            changes.Change([[1]], [0], True)


if __name__ == "__main__":
    unittest.main()
