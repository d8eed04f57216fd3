"""Cells, rows and forms: whole combinations of nested sums over rows."""

from latesums.changes import fits_change
from latesums.checks import fits_cell, fits_row, is_whole, is_width
from latesums.errors import (InvalidCell, InvalidChange, InvalidForm, InvalidList, InvalidNumber, InvalidRow,
                             InvalidTerm)


def is_cell(value, width):
    """Whether a value is a cell of this width."""
    if not is_width(width):
        raise InvalidNumber(width)
    return fits_cell(value, width)


def is_row(value, width):
    """Whether a value is a row of cells of this width."""
    if not is_width(width):
        raise InvalidNumber(width)
    return fits_row(value, width)


class Form:
    """A whole combination of nested sums over the rows of one width."""

    def __init__(self, width, terms):
        if not is_width(width):
            raise InvalidNumber(width)
        if not isinstance(terms, list):
            raise InvalidList(terms)
        for term in terms:
            if not is_term(term, width):
                raise InvalidTerm(term)
        self.width = width
        self._terms = put_together(terms)

    def terms(self):
        """The terms put together: each tuple of letters once, in order, none with the coefficient 0."""
        return list(self._terms)

    def at(self, row):
        """The worth of the form on a row."""
        if not fits_row(row, self.width):
            raise InvalidRow(row)
        return tail_worths(self._terms, worth_table(self._terms, row), len(row))[0]

    def with_first(self, cell):
        """The form for the row with a cell put in ahead of its first one."""
        if not fits_cell(cell, self.width):
            raise InvalidCell(cell)
        gained = [(coefficient * letter_worth(letters[0], cell), letters[1:])
                  for coefficient, letters in self._terms if letters]
        return made_form(self.width, self._terms + gained)

    def with_last(self, cell):
        """The form for the row with a cell put in behind its last one."""
        if not fits_cell(cell, self.width):
            raise InvalidCell(cell)
        gained = [(coefficient * letter_worth(letters[-1], cell), letters[:-1])
                  for coefficient, letters in self._terms if letters]
        return made_form(self.width, self._terms + gained)

    def changed(self, change):
        """The form whose worth on every row is that of this one on the changed row."""
        if not fits_change(change, self.width):
            raise InvalidChange(change)
        images = letter_images(self._terms, change)
        terms = []
        for coefficient, letters in self._terms:
            terms.extend(changed_term(coefficient, letters[::-1] if change.turns else letters, images))
        return made_form(self.width, terms)

    def __eq__(self, other):
        return isinstance(other, Form) and self.width == other.width and self._terms == other._terms

    def __add__(self, other):
        if not isinstance(other, Form):
            return NotImplemented
        if other.width != self.width:
            raise InvalidForm(other)
        return made_form(self.width, self._terms + other._terms)

    def __sub__(self, other):
        if not isinstance(other, Form):
            return NotImplemented
        if other.width != self.width:
            raise InvalidForm(other)
        return made_form(self.width, self._terms + times(-1, other._terms))

    def __mul__(self, other):
        if is_whole(other):
            return made_form(self.width, times(other, self._terms))
        if not isinstance(other, Form):
            return NotImplemented
        if other.width != self.width:
            raise InvalidForm(other)
        return made_form(self.width, multiplied(self._terms, other._terms))

    def __rmul__(self, other):
        if not is_whole(other):
            return NotImplemented
        return made_form(self.width, times(other, self._terms))

    def __neg__(self):
        return made_form(self.width, times(-1, self._terms))


def fits_form(value, width):
    """Whether a value is a form of a width."""
    return isinstance(value, Form) and value.width == width


def made_form(width, terms):
    """The form of terms that are known to be terms of this width."""
    # A product may have a hundred thousand terms: those that the package made are not checked once more.
    form = Form(width, [])
    form._terms = put_together(terms)
    return form


def is_letter(value, width):
    """Whether a value is a letter of this width."""
    if not fits_cell(value, width):
        return False
    for exponent in value:
        if exponent < 0:
            return False
    return True


def is_term(value, width):
    """Whether a value is a term of this width."""
    if not isinstance(value, tuple) or len(value) != 2:
        return False
    coefficient, letters = value
    if not is_whole(coefficient) or not isinstance(letters, tuple):
        return False
    for letter in letters:
        if not is_letter(letter, width):
            return False
    return True


def put_together(terms):
    """The list of terms, in order, in which each tuple of letters stands once, with a coefficient other than 0."""
    sums = {}
    for coefficient, letters in terms:
        sums[letters] = sums.get(letters, 0) + coefficient
    found = [(sums[letters], letters) for letters in sums if sums[letters] != 0]
    return sorted(found, key=lambda term: (len(term[1]), term[1]))


def letter_worth(letter, cell):
    """The product of the parts of a cell, each to the power of its exponent."""
    worth = 1
    for part, exponent in zip(cell, letter):
        for _ in range(exponent):
            worth = worth * part
    return worth


def worth_table(terms, row):
    """For each letter in the terms the list of its worths at the cells of a row."""
    table = {}
    for _, letters in terms:
        for letter in letters:
            if letter not in table:
                table[letter] = [letter_worth(letter, cell) for cell in row]
    return table


def tail_worths(terms, table, many):
    """The worths of terms together on a row of so many cells, on the row without its first cell, and so on."""
    constant = sum([coefficient for coefficient, letters in terms if not letters])
    groups = by_first_letter(terms)
    if not groups:
        return [constant] * (many + 1)
    # Terms that begin alike are summed as one: a product has very many terms and few beginnings.
    gains = [0] * many
    for letter in groups:
        behind = tail_worths(groups[letter], table, many)
        gains = [gain + worth * rest for gain, worth, rest in zip(gains, table[letter], behind[1:])]
    tails = [constant]
    for gain in gains[::-1]:
        tails.append(tails[-1] + gain)
    return tails[::-1]


def by_first_letter(terms):
    """For each letter with which terms begin the list of these terms without it."""
    groups = {}
    for coefficient, letters in terms:
        if letters:
            groups.setdefault(letters[0], []).append((coefficient, letters[1:]))
    return groups


def letter_images(terms, change):
    """For each letter in the terms what it becomes by a change."""
    matrix, offsets = change.matrix(), change.offsets()
    images = {}
    for _, letters in terms:
        for letter in letters:
            if letter not in images:
                images[letter] = letter_image(letter, matrix, offsets)
    return images


def letter_image(letter, matrix, offsets):
    """The letters, each with its factor, that have together the worth of a letter at the changed cell."""
    image = {tuple([0] * len(letter)): 1}
    for exponent, line, offset in zip(letter, matrix, offsets):
        for _ in range(exponent):
            image = times_line(image, line, offset)
    return image


def times_line(image, line, offset):
    """What letters with factors become if each is multiplied by one part of the changed cell."""
    sums = {}
    for letter, factor in image.items():
        sums[letter] = sums.get(letter, 0) + factor * offset
        for at, entry in enumerate(line):
            raised = letter[:at] + (letter[at] + 1,) + letter[at + 1:]
            sums[raised] = sums.get(raised, 0) + factor * entry
    return {letter: sums[letter] for letter in sums if sums[letter] != 0}


def changed_term(coefficient, letters, images):
    """The terms that come of a term if each of its letters becomes its image."""
    terms = [(coefficient, ())]
    for letter in letters:
        image = images[letter]
        terms = [(so_far * image[new], done + (new,)) for so_far, done in terms for new in image]
    return terms


def times(factor, terms):
    """The terms, each multiplied by a whole number."""
    return [(factor * coefficient, letters) for coefficient, letters in terms]


def multiplied(terms, others):
    """The terms of the product: each term times each other one."""
    return [(coefficient * factor, letters)
            for coefficient, one in terms for factor, other in others for letters in interleaved(one, other)]


def interleaved(one, other):
    """All ways to lay two tuples of letters over one row, where two letters may also share a place."""
    above = [[other[:at]] for at in range(len(other) + 1)]
    for letter in one:
        line = [[way + (letter,) for way in above[0]]]
        for at, beside in enumerate(other):
            shared = tuple([exponent + more for exponent, more in zip(letter, beside)])
            ways = [way + (letter,) for way in above[at + 1]]
            ways = ways + [way + (beside,) for way in line[at]]
            ways = ways + [way + (shared,) for way in above[at]]
            line.append(ways)
        above = line
    return above[-1]
