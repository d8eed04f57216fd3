"""The interface: names, parameters, and where things are defined ([1])."""

import inspect
import unittest

from latesums import changes, errors, forms
from tests.samples import NAME_ERRORS, VALUE_ERRORS

FUNCTIONS = [
    (forms.is_cell, "latesums.forms", "(value, width)"),
    (forms.is_row, "latesums.forms", "(value, width)"),
]
METHODS = [
    (forms.Form, "latesums.forms", {
        "__init__": "(self, width, terms)", "terms": "(self)", "at": "(self, row)", "with_first": "(self, cell)",
        "with_last": "(self, cell)", "changed": "(self, change)", "__eq__": "(self, other)",
        "__add__": "(self, other)", "__sub__": "(self, other)", "__mul__": "(self, other)"}),
    (changes.Change, "latesums.changes", {
        "__init__": "(self, matrix, offsets, *, turns=False)", "matrix": "(self)", "offsets": "(self)",
        "row": "(self, row)", "then": "(self, other)", "__eq__": "(self, other)"}),
]


class Interface(unittest.TestCase):
    def test_functions(self):
        for function, module, signature in FUNCTIONS:
            self.assertEqual(function.__module__, module)
            self.assertEqual(str(inspect.signature(function)), signature)

    def test_methods_stand_in_the_class_itself(self):
        for kind, module, methods in METHODS:
            self.assertEqual(kind.__module__, module)
            for name, signature in methods.items():
                with self.subTest(kind=kind.__name__, name=name):
                    self.assertIn(name, vars(kind))
                    self.assertEqual(str(inspect.signature(vars(kind)[name])), signature)

    def test_attributes_are_set_when_an_object_is_created(self):
        self.assertEqual(vars(forms.Form(2, []))["width"], 2)
        change = changes.Change([[1]], [0])
        self.assertEqual((vars(change)["width"], vars(change)["turns"]), (1, False))
        for form in (forms.Form(2, []) + forms.Form(2, []), -forms.Form(2, []), 2 * forms.Form(2, [])):
            self.assertEqual(vars(form)["width"], 2)

    def test_errors(self):
        for name in VALUE_ERRORS + NAME_ERRORS:
            field = "value" if name in VALUE_ERRORS else "name"
            self.assertEqual(str(inspect.signature(getattr(errors, name))), "(" + field + "=None)")

    def test_arguments_by_name(self):
        form = forms.Form(terms=[(2, ((1,),))], width=1)
        change = changes.Change(offsets=[1], matrix=[[3]], turns=True)
        self.assertEqual(form, forms.Form(1, [(2, ((1,),))]))
        self.assertEqual(form.at(row=[(5,)]), 10)
        self.assertEqual(form.with_first(cell=(5,)), form.with_first((5,)))
        self.assertEqual(form.with_last(cell=(5,)), form.with_last((5,)))
        self.assertEqual(form.changed(change=change), form.changed(change))
        self.assertEqual(change.row(row=[(1,), (2,)]), [(7,), (4,)])
        self.assertEqual(change.then(other=change), change.then(change))
        self.assertIs(forms.is_cell(width=1, value=(1,)), True)
        self.assertIs(forms.is_row(width=1, value=[(1,)]), True)

    def test_turns_only_by_name(self):
        with self.assertRaises(TypeError):
            changes.Change([[1]], [0], True)


if __name__ == "__main__":
    unittest.main()
