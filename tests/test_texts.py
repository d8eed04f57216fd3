"""[80], [81]: texts of forms."""

import random
import re
import unittest

from latesums.changes import Change
from latesums.errors import InvalidForm, InvalidNumber, InvalidText
from latesums.forms import Form
from latesums.texts import read_form, text_of
from tests.samples import any_values, good_width, raised, some_terms

BLANK = r"[ \n]*"
DIGITS = r"[1-9][0-9]{0,399}"


def pattern(width):
    """What texts for this width are, as one regular expression."""
    factor = rf"[{'xy'[:width]}](?:{BLANK}\^{BLANK}{DIGITS})?"
    letter = rf"(?:1|{factor}(?:[ \n]+{factor})*)"
    letters = rf"(?:{letter}(?:{BLANK},{BLANK}{letter})*)?"
    term = rf"-?(?:0|{DIGITS}){BLANK}\[{BLANK}{letters}{BLANK}\]"
    return re.compile(rf"{BLANK}(?:0|{term}(?:{BLANK}\+{BLANK}{term})*){BLANK}")


PATTERNS = {1: pattern(1), 2: pattern(2)}


def terms_by_hand(text, width):
    """The terms that a text tells, or None if it is none."""
    if not PATTERNS[width].fullmatch(text):
        return None
    terms = []
    for number, inner in re.findall(r"(-?[0-9]+)[ \n]*\[([^\]]*)\]", text):
        letters = []
        for part in inner.split(",") if inner.strip(" \n") else []:
            powers = re.findall(r"([xy])(?:[ \n]*\^[ \n]*([0-9]+))?", part)
            letters.append(tuple(sum(int(power or 1) for sign, power in powers if sign == name) for name in "xy"[:width]))
        terms.append((int(number), tuple(letters)))
    return terms


class Written(unittest.TestCase):
    def test_section_11(self):
        form = read_form("3 [x, 1] + -2 []\n+ 1 [x y^2 x]", 2)
        self.assertEqual([form.terms(), text_of(form), text_of(form - form)],
                         [[(-2, ()), (1, ((2, 2),)), (3, ((1, 0), (0, 0)))], '-2 [] + 1 [x^2 y^2] + 3 [x, 1]', '0'])

    def test_texts(self):
        for width, terms, text in (
                (1, [], "0"), (2, [], "0"), (1, [(0, ((1,),))], "0"), (1, [(5, ())], "5 []"), (1, [(-1, ())], "-1 []"),
                (1, [(1, ((0,),))], "1 [1]"), (2, [(1, ((0, 0),))], "1 [1]"), (1, [(1, ((1,),))], "1 [x]"),
                (1, [(-10, ((2,), (0,), (13,)))], "-10 [x^2, 1, x^13]"), (2, [(1, ((0, 1),))], "1 [y]"),
                (2, [(1, ((1, 1),))], "1 [x y]"), (2, [(1, ((2, 1),))], "1 [x^2 y]"), (2, [(1, ((1, 3), (0, 2)))], "1 [x y^3, y^2]"),
                (1, [(2, ((1,), (0,))), (3, ()), (-4, ((1,),)), (5, ((0,),))], "3 [] + 5 [1] + -4 [x] + 2 [x, 1]"),
                (1, [(2, ((1,),)), (2, ((1,),))], "4 [x]")):
            self.assertEqual(text_of(Form(width, terms)), text)
            self.assertEqual(read_form(text, width), Form(width, terms))
            self.assertIs(type(text_of(Form(width, terms))), str)

    def test_forms_come_back(self):
        chance = random.Random(150)
        for _ in range(200):
            width = chance.randint(1, 2)
            form = Form(width, some_terms(chance, width, chance.randint(0, 6), 4, chance.choice([3, 10 ** 20 - 1])))
            text = text_of(form)
            self.assertEqual(read_form(text, width), form)
            self.assertEqual(terms_by_hand(text, width), form.terms())
            self.assertEqual(read_form(text.replace(" ", "\n \n"), width), form)
            if width == 1 and form.terms():
                self.assertEqual(read_form(text, 2).terms(), [
                    (factor, tuple(letter + (0,) for letter in letters)) for factor, letters in form.terms()])

    def test_coefficients_and_exponents_of_very_many_digits(self):
        for number in (10 ** 39, 10 ** 40, 10 ** 40 - 1, 10 ** 80, 10 ** 80 + 10 ** 41 + 7, 10 ** 400 - 1):
            for one in (number, -number):
                text = text_of(one * Form(1, [(1, ((2,),))]))
                self.assertEqual(text, f"{one} [x^2]")
                self.assertEqual(read_form(text, 1), Form(1, [(one, ((2,),))]))
            self.assertEqual(text_of(Form(1, [(1, ((number,),))])), f"1 [x^{number}]")
        text = text_of((-7 * 10 ** 6000) * Form(1, [(1, ())]))
        self.assertEqual(text, "-7" + "0" * 6000 + " []")
        raised(self, InvalidText, lambda: read_form(text, 1), "value", text)

    def test_returned_forms(self):
        form = Form(2, [(3, ((2, 1), (0, 3))), (1, ((0, 0),))]).changed(Change([[1, -2], [3, 4]], [5, 6], turns=True))
        self.assertEqual(read_form(text_of(form * form), 2), form * form)

    def test_values_that_are_no_forms(self):
        for value in any_values() + [[Form(1, [])], "0"]:
            if type(value) is Form:
                self.assertEqual(read_form(text_of(value), value.width), value)
            else:
                raised(self, InvalidForm, lambda: text_of(value), "value", value)
        raised(self, InvalidForm, lambda: text_of(form=None), "value", None)


class Read(unittest.TestCase):
    def check(self, text, width):
        """Checks that a text is read, or refused; returns its terms, or None."""
        terms = terms_by_hand(text, width)
        if terms is None:
            raised(self, InvalidText, lambda: read_form(text, width), "value", text)
        else:
            self.assertEqual(read_form(text, width), Form(width, terms), text)
        return terms

    def test_texts_that_are_read(self):
        for text, terms in (
                ("0", []), (" \n0\n ", []), ("1[]", [(1, ())]), ("1 [ ]", [(1, ())]), ("0 []", []), ("-0 [x]", []), ("-0[]", []),
                ("1[x]+2[1]", [(1, ((1,),)), (2, ((0,),))]), ("1 [x x]", [(1, ((2,),))]), ("1 [x^2 x x^3]", [(1, ((6,),))]),
                ("1 [x ^ 2]", [(1, ((2,),))]), ("1 [x\n^\n2\nx]", [(1, ((3,),))]), ("1 [x,x]", [(1, ((1,), (1,)))]),
                ("\n-12\n[\nx\n,\n1\n]\n", [(-12, ((1,), (0,)))]), ("1 [1,1,1]", [(1, ((0,), (0,), (0,)))]),
                ("1 [x] + -1 [x]", []), ("1 [x^1]", [(1, ((1,),))]), ("2 [x]+-3 [x]", [(-1, ((1,),))]),
                ("1 [x]  +\n\n 1 [x, x]", [(1, ((1,),)), (1, ((1,), (1,)))])):
            self.assertEqual(self.check(text, 1) is None, False)
            self.assertEqual(read_form(text, 1), Form(1, terms))
        for text, terms in (("1 [y]", [(1, ((0, 1),))]), ("1 [y x y^2]", [(1, ((1, 3),))]), ("1 [1, y]", [(1, ((0, 0), (0, 1)))])):
            self.assertEqual(read_form(text, 2), Form(2, terms))
            raised(self, InvalidText, lambda: read_form(text, 1), "value", text)

    def test_texts_that_are_refused(self):
        texts = ["", " ", "\n", "00", "-0", "- 0", "+0", "0 0", "0 + 0", "0 + 1 [x]", "1 [x] + 0", "1", "-1", "[x]", "x", "1 x", "1 [",
                 "1 ]", "1 [x", "1 x]", "1 [x]]", "1 [[x]]", "1 [x] 1 [x]", "1 [x] +", "+ 1 [x]", "1 [x] + + 1 [x]", "1 [x] - 1 [x]",
                 "1 [x] -1 [x]", "- 1 [x]", "--1 [x]", "+1 [x]", "01 [x]", "-01 [x]", "1 [,]", "1 [x,]", "1 [,x]", "1 [x,,x]",
                 "1 [xx]", "1 [xy]", "1 [x^2x]", "1 [x^2y]", "1 [x^]", "1 [^2]", "1 [x^0]", "1 [x^-1]", "1 [x^+1]", "1 [x^02]",
                 "1 [x^x]", "1 [x^2^2]", "1 [x ^2 ^2]", "1 [2]", "1 [0]", "1 [-1]", "1 [1 1]", "1 [1 x]", "1 [x 1]", "1 [11]", "1 [1^2]",
                 "1 [x 2]", "1 [z]", "1 [X]", "1 (x)", "1 {x}", "1\t[x]", "1\r[x]", "1\u00a0[x]", "1 [x]\x00", "1 [x\u00b2]", "\u0661 [x]",
                 "1 [x]+1", "1 1 [x]", "1 2 [x]", "1.0 [x]", "1e3 [x]", "1_0 [x]", "1 [x]; ", "1 [x] [x]", "1 []x", "1 [x + x]", "nil",
                 "1 * [x]", "1 [x*x]", "1 [x**2]", "\ufeff1 [x]", "1\f[x]", "1\v[x]", "\u20101 [x]", "1 [x]\\n", "0x1 [x]"]
        for text in texts:
            for width in (1, 2):
                self.assertIs(self.check(text, width), None, text)

    def test_numbers_of_400_digits(self):
        most = "9" * 400
        for digits in (most, "1" + "0" * 399):
            for text in (f"{digits} [x]", f"-{digits}[]", f"1 [x^{digits}]", f"1 [x ^{digits} x]"):
                self.assertIsNot(self.check(text, 1), None)
            for text in (f"{digits}0 [x]", f"-{digits}0 []", f"1 [x^{digits}0]", f"0{digits} [x]", f"{digits} {digits} [x]"):
                self.assertIs(self.check(text, 1), None)

    def test_one_sign_or_token_left_out_put_in_or_exchanged(self):
        chance = random.Random(151)
        signs = list("0123456789xy[],+^- \n") + ["a", "X", "\t", ".", "*", "(", "\u00b2", "10", "x y", " + ", "[]", "[x]", "-1", "^2"]
        kinds = {True: 0, False: 0}
        for _ in range(400):
            width = chance.randint(1, 2)
            text = self.some_text(chance, width)
            self.assertIsNot(self.check(text, width), None)
            tokens = re.findall(r"-?[0-9]+|\s+|.", text)
            for pieces in (list(text), tokens):
                at, other = chance.randrange(len(pieces) + 1), chance.randrange(len(pieces))
                sign = chance.choice(signs)
                swapped = list(pieces)
                swapped[other:other + 2] = swapped[other:other + 2][::-1]
                for near in (pieces[:other] + pieces[other + 1:], pieces[:at] + [sign] + pieces[at:],
                             pieces[:other] + [sign] + pieces[other + 1:], swapped, pieces[:at] + pieces[other:]):
                    kinds[self.check("".join(near), width) is None] += 1
        self.assertGreater(min(kinds.values()), 500)

    def some_text(self, chance, width):
        """A text of any kind that is read."""
        blank = lambda least=0: "".join(chance.choice([" ", "\n"]) for _ in range(chance.choice([least, least, 1, 2])))
        factor = lambda: chance.choice("xy"[:width]) + chance.choice(["", "", f"{blank()}^{blank()}{chance.randint(1, 12)}"])
        letter = lambda: chance.choice(["1", factor(), factor() + blank(1) + factor()])
        letters = lambda: f"{blank()},{blank()}".join(letter() for _ in range(chance.randint(0, 3)))
        term = lambda: f"{chance.randint(-12, 12)}{blank()}[{blank()}{letters()}{blank()}]"
        terms = f"{blank()}+{blank()}".join(term() for _ in range(chance.randint(0, 3)))
        return blank() + (terms or "0") + blank()

    def test_values_that_are_no_texts_and_widths(self):
        for value in any_values():
            for width in (1, 2):
                if type(value) is str:
                    self.check(value, width)
                else:
                    raised(self, InvalidText, lambda: read_form(value, width), "value", value)
            for text in ("0", "x", None, value):
                if not good_width(value):
                    raised(self, InvalidNumber, lambda: read_form(text, value), "value", value)

    def test_arguments_by_name(self):
        self.assertEqual(read_form(width=1, text="1 [x]"), Form(1, [(1, ((1,),))]))
        self.assertEqual(text_of(form=Form(1, [])), "0")


if __name__ == "__main__":
    unittest.main()
