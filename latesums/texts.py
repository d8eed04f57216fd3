"""Texts of forms, written and read."""

from latesums.checks import is_width
from latesums.errors import InvalidForm, InvalidNumber, InvalidText
from latesums.forms import Form

PARTS = "xy"
DIGITS = "0123456789"
MOST_DIGITS = 400
SHORT = 10000000000000000000000000000000000000000


def text_of(form):
    """The text of a form."""
    if not isinstance(form, Form):
        raise InvalidForm(form)
    terms = [term_text(factor, letters) for factor, letters in form.terms()]
    return " + ".join(terms) if terms else "0"


def read_form(text, width):
    """The form of a text."""
    if not is_width(width):
        raise InvalidNumber(width)
    tokens = tokens_of(text, PARTS[:width]) if isinstance(text, str) else None
    terms = None if tokens is None else terms_of(tokens, width)
    if terms is None:
        raise InvalidText(text)
    return Form(width, terms)


def term_text(factor, letters):
    """The text of a term."""
    inner = ", ".join([letter_text(letter) for letter in letters])
    return f"{number_text(factor)} [{inner}]"


def letter_text(letter):
    """The text of a letter."""
    factors = []
    for sign, exponent in zip(PARTS, letter):
        if exponent == 1:
            factors.append(sign)
        elif exponent != 0:
            factors.append(f"{sign}^{number_text(exponent)}")
    return " ".join(factors) if factors else "1"


def number_text(number):
    """The digits of a number, behind `-` if it is below 0."""
    # Python writes only numbers that are not too long at once.
    left, pieces = abs(number), []
    while left >= SHORT:
        left, rest = divmod(left, SHORT)
        pieces.append(str(rest).zfill(len(str(SHORT)) - 1))
    pieces.append(str(left))
    digits = "".join(pieces[::-1])
    return f"-{digits}" if number < 0 else digits


def tokens_of(text, parts):
    """The list of the tokens of a text with these signs for the parts, or None if there is anything else in it."""
    tokens, at, apart = [], 0, True
    while at < len(text):
        if text[at] in " \n":
            at, apart = at + 1, True
            continue
        token = token_at(text, at, parts)
        if token is None or not apart and is_long(token) and is_long(tokens[-1]):
            return None
        tokens.append(token)
        at, apart = at + len(token), False
    return tokens


def is_long(token):
    """Whether a token is a number or a part, two of which do not stand side by side."""
    return token not in "[],+^"


def token_at(text, at, parts):
    """The token that begins at a place of a text, or None."""
    if text[at] in "[],+^" or text[at] in parts:
        return text[at]
    first = at + 1 if text[at] == "-" else at
    end = first
    while end < len(text) and text[end] in DIGITS:
        end = end + 1
    if not 1 <= end - first <= MOST_DIGITS or text[first] == "0" and end > first + 1:
        return None
    return text[at:end]


def terms_of(tokens, width):
    """The terms that tokens tell, or None."""
    if tokens == ["0"]:
        return []
    terms = [term_of(part, width) for part in split_at(tokens, "+")]
    return None if None in terms else terms


def term_of(tokens, width):
    """The term that tokens tell, or None."""
    if len(tokens) < 3 or not is_number(tokens[0]) or tokens[1] != "[" or tokens[-1] != "]":
        return None
    inner = tokens[2:-1]
    letters = [letter_of(part, width) for part in split_at(inner, ",")] if inner else []
    return None if None in letters else (int(tokens[0]), tuple(letters))


def letter_of(tokens, width):
    """The letter that tokens tell, or None."""
    exponents = [0] * width
    if tokens == ["1"]:
        return tuple(exponents)
    at = 0
    while at < len(tokens):
        if tokens[at] not in PARTS:
            return None
        place, power = PARTS.index(tokens[at]), 1
        at = at + 1
        if tokens[at:at + 1] == ["^"]:
            if at + 1 == len(tokens) or tokens[at + 1][0] not in DIGITS[1:]:
                return None
            power = int(tokens[at + 1])
            at = at + 2
        exponents[place] = exponents[place] + power
    return tuple(exponents) if tokens else None


def is_number(token):
    """Whether a token is a number."""
    return token[-1] in DIGITS


def split_at(tokens, sign):
    """The lists of the tokens between those that are this sign."""
    parts = [[]]
    for token in tokens:
        if token == sign:
            parts.append([])
        else:
            parts[-1].append(token)
    return parts
