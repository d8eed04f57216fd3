"""Keepers: how plans keep their numbers, for cells and for what is joined and changed."""

from latesums.forms import letter_worth


class Keeper:
    """The tables of plans that fit a wish, their numbers side by side, for the cells and changes of this wish.

    `starts` are the numbers of the row without cells, `lifts` tell those of cells, `products` those of joins, `tables`
    what becomes of numbers by each change; `moves` are the changes themselves, by name. All numbers are exact where
    the modulus is None, and are reduced by it otherwise.
    """

    def __init__(self, plans, wish):
        starts = []
        lifts = []
        products = []
        tables = {name: [] for name, _ in wish.changes()}
        for plan in plans:
            shift = len(lifts)
            starts.extend(plan.empty())
            lifts.extend([cell_letters(form) for form in plan.lift()])
            products.extend([shifted(line, shift) for line in plan.joins()])
            for name, matrix in plan.changes():
                if name in tables:
                    tables[name] = tables[name] + [short_line(line, shift) for line in matrix]
        self.starts = starts
        self.lifts = lifts
        self.products = products
        self.tables = tables
        self.moves = dict(wish.changes())

    def of_cell(self, cell, modulus):
        """The numbers of a row of one cell."""
        return reduced([letters_worth(letters, cell) for letters in self.lifts], modulus)

    def joined(self, one, other, modulus):
        """The numbers of two rows together, from those of the first and the second one."""
        return applied(self.left_table(one, modulus), other, modulus)

    def left_table(self, numbers, modulus):
        """The table by which the numbers of a row become those of it behind a row with these numbers."""
        table = []
        for line in self.products:
            sums = {}
            for one, other, factor in line:
                sums[other] = sums.get(other, 0) + factor * numbers[one]
            table.append(list(zip(list(sums), reduced(list(sums.values()), modulus))))
        return table

    def changed(self, name, numbers, modulus):
        """The numbers of a row behind a change, from those ahead of it."""
        return applied(self.tables[name], numbers, modulus)


def shifted(line, shift):
    """Products of two numbers, with a factor, of a plan that stands behind so many numbers of other ones."""
    return [(one + shift, other + shift, factor) for one, other, factor in line]


def short_line(factors, shift):
    """The factors other than 0 with their indices, behind so many numbers of other plans."""
    return [(at + shift, factor) for at, factor in enumerate(factors) if factor != 0]


def applied(table, numbers, modulus):
    """The sums of multiples of numbers that the lines of a table tell."""
    return reduced([sum([factor * numbers[at] for at, factor in line]) for line in table], modulus)


def reduced(numbers, modulus):
    """Numbers reduced by a modulus, or as they are if it is None."""
    return numbers if modulus is None else [number % modulus for number in numbers]


def cell_letters(form):
    """The letters, each with its factor, whose worths sum up to that of a form on a row of one cell."""
    # There the constant is worth what the letter without exponents is, and words of more letters are worth 0.
    sums = {}
    for factor, letters in form.terms():
        if len(letters) <= 1:
            letter = letters[0] if letters else tuple([0] * form.width)
            sums[letter] = sums.get(letter, 0) + factor
    return {letter: factor for letter, factor in sums.items() if factor != 0}


def letters_worth(letters, cell):
    """The sum of the worths of letters with factors at a cell."""
    return sum([factor * letter_worth(letter, cell) for letter, factor in letters.items()])
