"""Values and plain oracles that the tests share. Nothing here calls what it is an oracle for."""

import time
from itertools import combinations

from latesums import errors
from latesums.changes import Change
from latesums.forms import Form
from latesums.library import Library
from latesums.live import Live
from latesums.plans import Plan
from latesums.trees import Tree
from latesums.wishes import Wish

SECONDS = 10

VALUE_ERRORS = [
    "InvalidNumber", "InvalidCell", "InvalidRow", "InvalidTerm", "InvalidForm", "InvalidList", "InvalidChange",
    "InvalidAsk", "InvalidItem", "InvalidWish", "InvalidPlan", "InvalidStory", "InvalidTree", "InvalidText"]
NAME_ERRORS = ["Unfit", "InvalidName", "TakenName", "UnknownName"]


def nested(depth, wrap):
    """A value that is wrapped so many times."""
    value = 1
    for _ in range(depth):
        value = wrap(value)
    return value


def any_values():
    """New values of every kind that an argument may have, fitting ones among them."""
    plain = [None, True, False, -1, 0, 1, 2, 3, 10 ** 20, -(10 ** 400), "", "a", "1", "sum", "not a name"]
    lists = [[], [1], [0, 0], [True], [False, False], [None], ["a"], [()], [(1,)], [(1,), (2,)], [(1, 2)],
             [(1, 2), (3,)], [(True,)], [(1,), [1]], [[]], [[1]], [[True]], [[1, 0], [0, 1]], [[1, 0], [0, True]],
             [[1, 0], [0]], [[1, 0], (0, 1)], [[1, 0, 0], [0, 1, 0], [0, 0, 1]], [[1], [1]], [(1, ())], [(1, ((1,),))],
             [(1, ((1, 0),))], [(1, [(1,)])], [(1, ((-1,),))], [(1, ((True,),))], [{}]]
    tuples = [(), (1,), (0, 0), (True,), (1, False), (1, 2), (1, None), ("a",), (1, 2, 3), ((1,),), ([1],), ([1], [1]),
              (1, ()), (1, ((1,),)), (1, ((0, 0),)), ("cell", (1,))]
    dicts = [{}, {"a": 1}, {0: (1,)}, {(1,): [1]}]
    objects = [Form(1, []), Form(1, [(1, ((1,),))]), Form(2, [(1, ((1, 0),))]), Change([[1]], [0]),
               Change([[1, 0], [0, 1]], [0, 0], turns=True), errors.InvalidNumber(1), errors.NothingToUndo()]
    objects += [Wish(1, [], []), Wish(1, [("a", Form(1, [(1, ((1,),))]))], [("b", Change([[1]], [0]))]), Wish(2, [], []),
                Plan(1, [], [], [], [], []), Plan(2, [1], [Form(2, [(1, ())])], [[(0, 0, 1)]], [], [("a", [1])])]
    named = [("a", 1), ("a", Form(1, [])), ("a", Change([[1]], [0])), ["a", Form(1, [])], [("a", Form(1, []))],
             [("a", Form(2, []))], [("a", Change([[1]], [0]))], [("a", Form(1, [])), ("a", Form(1, []))], [("a", [])],
             [("a", [1])], [("a", [[1]])], [Form(1, [])], [Form(2, []), Form(1, [])], [Change([[1]], [0])],
             [(0, 0, 1)], [[(0, 0, 1)]], [[(0, 0, True)]], [[(0, 1, 1)]], [[[0, 0, 1]]], ("empty",), ("cell", (1, 2))]
    cell = ("cell", (1,))
    named += [("join", cell, cell), [cell, cell], ("change", "b", cell), [("empty",)], ("before", (1,)), [("before", (1,))],
              ("change", "b"), ("join", cell, ("empty",)), [("join", cell, cell)], ["empty"]]
    tree = Tree(Plan(1, [], [], [], [], []), Wish(1, [], []), [(1,)])
    objects += [tree, Tree(Plan(2, [], [], [], [], []), Wish(2, [], []), []), Live(tree), Library()]
    deep = [nested(20, lambda value: [value]), nested(20, lambda value: (value,)), nested(20, lambda value: {1: value})]
    return plain + lists + tuples + dicts + objects + named + deep


def whole(value):
    return type(value) is int


def good_width(value):
    return whole(value) and (value == 1 or value == 2)


def good_cell(value, width):
    return type(value) is tuple and len(value) == width and all(whole(part) for part in value)


def good_row(value, width):
    return type(value) is list and all(good_cell(cell, width) for cell in value)


def good_letter(value, width):
    return good_cell(value, width) and all(exponent >= 0 for exponent in value)


def good_term(value, width):
    return (type(value) is tuple and len(value) == 2 and whole(value[0]) and type(value[1]) is tuple
            and all(good_letter(letter, width) for letter in value[1]))


def good_line(value, many):
    return type(value) is list and len(value) == many and all(whole(part) for part in value)


def good_matrix(value):
    return type(value) is list and len(value) in (1, 2) and all(good_line(line, len(value)) for line in value)


def good_change(value, width):
    return type(value) is Change and value.width == width


def good_form(value, width):
    return type(value) is Form and value.width == width


def good_name(value):
    return type(value) is str and 1 <= len(value) <= 8 and set(value) <= set("abcdefghijklmnopqrstuvwxyz")


def bad_names():
    """Values that are no names, though some are near to being ones."""
    return ["", "abcdefghi", "A", "aB", "a b", "a1", "a_b", "\u00e4", "a\n", " a", "\u0430", "-", "{", "`", None, 1, True,
            ("a",), ["a"], {"a": 1}]


def first_bad(items, good):
    """A list of the first item that is no tuple of a name, a new one, and of something good; of none if all are."""
    taken = []
    for item in items:
        if type(item) is not tuple or len(item) != 2 or not good_name(item[0]) or item[0] in taken or not good(item[1]):
            return [item]
        taken.append(item[0])
    return []


def letter_by_hand(letter, cell):
    worth = 1
    for exponent, part in zip(letter, cell):
        worth *= part ** exponent
    return worth


def worth_by_hand(terms, row):
    """The worth of a list of terms on a row, choice by choice, as the document words it."""
    worth = 0
    for coefficient, letters in terms:
        for places in combinations(range(len(row)), len(letters)):
            product = coefficient
            for letter, place in zip(letters, places):
                product *= letter_by_hand(letter, row[place])
            worth += product
    return worth


def change_by_hand(matrix, offsets, turns, row):
    """The changed row, part by part, as the document words it."""
    cells = []
    for cell in row:
        many = len(cell)
        cells.append(tuple(offsets[k] + sum(matrix[k][j] * cell[j] for j in range(many)) for k in range(many)))
    if turns:
        cells.reverse()
    return cells


def some_letter(chance, width, most=3):
    """A letter with exponents of at most `most` in sum."""
    first = chance.randint(0, most)
    return (first,) if width == 1 else (first, chance.randint(0, most - first))


def some_terms(chance, width, many, letters, size=9):
    """A list of so many terms with at most so many letters."""
    return [(chance.randint(-size, size), tuple(some_letter(chance, width) for _ in range(chance.randint(0, letters))))
            for _ in range(many)]


def unlike_terms(chance, width, many, letters, most=3, size=10 ** 20 - 1):
    """A list of so many terms with just so many letters, no two of them alike."""
    chosen = {}
    while len(chosen) < many:
        chosen[tuple(some_letter(chance, width, most) for _ in range(letters))] = chance.randint(1, size)
    return [(factor, word) for word, factor in chosen.items()]


def some_row(chance, width, many, size=9):
    return [tuple(chance.randint(-size, size) for _ in range(width)) for _ in range(many)]


def some_change_parts(chance, width, size=4):
    """The matrix, the offsets and the turning of a change."""
    matrix = [[chance.randint(-size, size) for _ in range(width)] for _ in range(width)]
    return matrix, [chance.randint(-size, size) for _ in range(width)], chance.random() < 0.5


def raised(case, kind, call, field=None, holds=None):
    """The error of just this class that a call raises, whose field holds just this object."""
    with case.assertRaises(errors.SumsError) as caught:
        call()
    case.assertIs(type(caught.exception), kind)
    if field is not None:
        case.assertIs(getattr(caught.exception, field), holds)
    return caught.exception


def timed(case, call):
    """What a call returns, which has to be there within seconds."""
    begin = time.process_time()
    result = call()
    case.assertLess(time.process_time() - begin, SECONDS)
    return result


def lists_within(value):
    """All lists in a value, itself among them."""
    found = [value] if type(value) is list else []
    if type(value) in (list, tuple):
        for item in value:
            found += lists_within(item)
    return found
