"""Slow and plain ways to tell what lots and plans have to be, for the tests. Nothing here calls what it judges."""

from fractions import Fraction

from latesums.changes import Change
from latesums.forms import Form
from latesums.wishes import Wish
from tests.samples import change_by_hand, some_change_parts, some_row, some_terms, worth_by_hand


def place(letters):
    return len(letters), letters


class FormSpan:
    """All combinations, by fractions, of forms; tells of which forms it was given a form is which combination."""

    def __init__(self):
        self.rows = []
        self.many = 0

    def parts(self, form):
        """What is left of a form, and the factors of the given forms that were taken off it."""
        left = {letters: Fraction(factor) for factor, letters in form.terms()}
        factors = [Fraction(0)] * self.many
        for lead, row, told in self.rows:
            times = left.get(lead, 0)
            if times:
                for letters, factor in row.items():
                    left[letters] = left.get(letters, 0) - times * factor
                factors = [factor + times * more for factor, more in zip(factors, told)]
        return {letters: factor for letters, factor in left.items() if factor}, factors

    def add(self, form):
        """Adds a form unless it is a combination already; returns whether it was added."""
        left, factors = self.parts(form)
        if not left:
            return False
        lead = max(left, key=place)
        unit = 1 / left[lead]
        told = [-factor * unit for factor in factors] + [unit]
        self.rows = [(word, row, known + [Fraction(0)]) for word, row, known in self.rows]
        self.rows.append((lead, {letters: factor * unit for letters, factor in left.items()}, told))
        self.rows.sort(key=lambda row: place(row[0]), reverse=True)
        self.many += 1
        return True

    def has(self, form):
        return not self.parts(form)[0]

    def factors(self, form):
        """The factors of the given forms in a form that is a combination of them, otherwise None."""
        left, factors = self.parts(form)
        return None if left else factors


def some_cells(width, most=3):
    """Cells at which letters of exponents up to `most` have independent worths."""
    line = range(most + 1)
    return [(part,) for part in line] if width == 1 else [(part, other) for part in line for other in line]


def span_by_hand(wish, most=3):
    """All combinations, by fractions, of the forms in the lot of a wish."""
    span, cells = FormSpan(), some_cells(wish.width, most)
    waiting = [form for _, form in wish.asks()]
    while waiting:
        form = waiting.pop()
        if span.add(form):
            waiting += [form.with_first(cell) for cell in cells] + [form.with_last(cell) for cell in cells]
            waiting += [form.changed(change) for _, change in wish.changes()]
    return span


def make_all_whole(forms):
    """Whether all whole forms among the combinations of independent forms by fractions are whole combinations."""
    tables = [{letters: factor for factor, letters in form.terms()} for form in forms]
    words = sorted({letters for table in tables for letters in table})
    columns = [[table.get(letters, 0) for table in tables] for letters in words]
    # The columns have to make all whole columns: they are turned into a triangle by whole steps.
    for at in range(len(forms)):
        live = [column for column in columns if column[at]]
        rest = [column for column in columns if not column[at]]
        while len(live) > 1:
            least = min(live, key=lambda column: abs(column[at]))
            rows = [least]
            for column in live:
                if column is not least:
                    times = column[at] // least[at]
                    column = [entry - times * part for entry, part in zip(column, least)]
                    (rows if column[at] else rest).append(column)
            live = rows
        if not live or abs(live[0][at]) != 1:
            return False
        columns = rest
    return True


def numbers_by_hand(plan, story):
    """The numbers of a plan for a story, step by step, as the document words it."""
    if story[0] == "empty":
        return plan.empty()
    if story[0] == "cell":
        return [worth_by_hand(form.terms(), [story[1]]) for form in plan.lift()]
    if story[0] == "change":
        numbers = numbers_by_hand(plan, story[2])
        return [sum(line[i] * numbers[i] for i in range(len(numbers))) for line in dict(plan.changes())[story[1]]]
    one, other = numbers_by_hand(plan, story[1]), numbers_by_hand(plan, story[2])
    return [sum(factor * one[i] * other[j] for i, j, factor in products) for products in plan.joins()]


def row_by_hand(wish, story):
    """The row of a story."""
    if story[0] == "empty":
        return []
    if story[0] == "cell":
        return [story[1]]
    if story[0] == "change":
        change = dict(wish.changes())[story[1]]
        return change_by_hand(change.matrix(), change.offsets(), change.turns, row_by_hand(wish, story[2]))
    return row_by_hand(wish, story[1]) + row_by_hand(wish, story[2])


def told_by_hand(plan, name, story):
    """What a plan tells for an ask from the numbers of a story."""
    return sum(factor * number for factor, number in zip(dict(plan.asks())[name], numbers_by_hand(plan, story)))


def some_story(chance, wish, steps, size=9):
    """A story with cells with about so many steps."""
    if steps <= 1:
        return "cell", some_row(chance, wish.width, 1, size)[0]
    if wish.changes() and chance.random() < 0.4:
        return "change", chance.choice(wish.changes())[0], some_story(chance, wish, steps - 1, size)
    ahead = chance.randint(1, steps - 1)
    return "join", some_story(chance, wish, ahead, size), some_story(chance, wish, steps - ahead, size)


def some_wish(chance, size=9):
    """A small wish of any kind: with few or no asks and changes, which may lose and turn."""
    width = chance.randint(1, 2)
    asks = [(name, Form(width, some_small_terms(chance, width, size))) for name in "abcd"[:chance.randint(0, 4)]]
    changes = []
    for name in "efgh"[:chance.choice([0, 0, 1, 1, 2, 3])]:
        matrix, offsets, turns = some_change_parts(chance, width, chance.choice([1, size]))
        changes.append((name, Change(matrix, chance.choice([offsets, [0] * width]), turns=turns)))
    return Wish(width, asks, changes)


def some_small_terms(chance, width, size):
    """Terms of which few forms come by cuts and changes."""
    many = chance.choice([0, 1, 1, 2, 3])
    if chance.random() < 0.5:
        return some_terms(chance, width, many, 1, size)
    low = [(0,), (1,)] if width == 1 else [(0, 0), (1, 0), (0, 1)]
    return [(chance.randint(-size, size), tuple(chance.choice(low) for _ in range(chance.randint(0, 2))))
            for _ in range(many)]
