"""Slow and plain ways to tell what stories, papers and contexts have to be, and plans to try them on."""

from fractions import Fraction

from latesums.forms import Form
from latesums.plans import Plan
from tests.oracles import FormSpan, numbers_by_hand, row_by_hand, some_cells, told_by_hand
from tests.samples import change_by_hand, some_terms, worth_by_hand


def parts_of_plan(plan):
    return [plan.width, plan.empty(), plan.lift(), plan.joins(), plan.changes(), plan.asks()]


def steps_of(story):
    """How many steps a story has, each counted as often as it stands there."""
    if story[0] == "join":
        return 1 + steps_of(story[1]) + steps_of(story[2])
    return 1 + steps_of(story[2]) if story[0] == "change" else 1


def stories_by_steps(wish, most, cells):
    """All stories with cells, over some cells, with 1, 2 .. `most` steps: a list of lists."""
    found = [[], [("cell", cell) for cell in cells]]
    for many in range(2, most + 1):
        level = [("change", name, story) for name, _ in wish.changes() for story in found[many - 1]]
        for ahead in range(1, many - 1):
            level += [("join", one, other) for one in found[ahead] for other in found[many - 1 - ahead]]
        found.append(level)
    return found


def wrong_asks(plan, wish, story):
    """The names of the asks that a plan tells wrongly at a story."""
    row = row_by_hand(wish, story)
    return [name for name, form in wish.asks() if told_by_hand(plan, name, story) != worth_by_hand(form.terms(), row)]


def rank_by_hand(lists):
    """How many of some lists of whole numbers are independent."""
    rows, many = [[Fraction(number) for number in numbers] for numbers in lists], 0
    for column in range(len(rows[0]) if rows else 0):
        live = [at for at in range(many, len(rows)) if rows[at][column]]
        if live:
            rows[many], rows[live[0]] = rows[live[0]], rows[many]
            for at in range(many + 1, len(rows)):
                times = rows[at][column] / rows[many][column]
                if times:
                    rows[at] = [number - times * part for number, part in zip(rows[at], rows[many])]
            many += 1
    return many


def all_numbers(plan, forms, wish, story):
    """The numbers of a story and the worths of forms on its row."""
    row = row_by_hand(wish, story)
    return numbers_by_hand(plan, story) + [form.at(row) for form in forms]


def fewest_wrong(plan, wish, forms, most=3):
    """The steps of the stories with the fewest ones at which a plan is wrong, or None, level by level.

    `forms` are the independent forms of the lot; letters have exponents up to `most`.
    """
    if wrong_asks(plan, wish, ("empty",)):
        return 1
    found, lists, steps = {}, [], 1
    waiting = {1: [("cell", cell) for cell in some_cells(wish.width, most)]}
    while waiting:
        for story in waiting.pop(steps, []):
            numbers = all_numbers(plan, forms, wish, story)
            if rank_by_hand(lists + [numbers]) > len(lists):
                if wrong_asks(plan, wish, story):
                    return steps
                lists.append(numbers)
                found[story] = steps
                for name, _ in wish.changes():
                    waiting.setdefault(steps + 1, []).append(("change", name, story))
                for other, more in found.items():
                    waiting.setdefault(steps + more + 1, []).append(("join", story, other))
                    waiting[steps + more + 1].append(("join", other, story))
        steps += 1
    return None


def row_by_steps(wish, row, steps):
    """The row that comes of a row by context steps."""
    for kind, what in steps:
        if kind == "change":
            change = dict(wish.changes())[what]
            row = change_by_hand(change.matrix(), change.offsets(), change.turns, row)
        else:
            row = [what] + row if kind == "before" else row + [what]
    return row


def fewest_steps(wish, one, other, most=3):
    """How many context steps it takes to tell two rows apart, level by level, or None."""
    cells, span, steps = some_cells(wish.width, most), FormSpan(), 0
    level = [form for _, form in wish.asks() if span.add(form)]
    while level:
        if [form for form in level if worth_by_hand(form.terms(), one) != worth_by_hand(form.terms(), other)]:
            return steps
        behind = [form.with_first(cell) for form in level for cell in cells]
        behind += [form.with_last(cell) for form in level for cell in cells]
        behind += [form.changed(change) for form in level for _, change in wish.changes()]
        level = [form for form in behind if span.add(form)]
        steps += 1
    return None


def slightly_other(chance, plan):
    """A plan that differs from a plan a little, or not at all."""
    width, empty, lift, joins, changes, asks = parts_of_plan(plan)
    many = len(plan)
    for _ in range(chance.choice([0, 1, 1, 1, 2]) if many else 0):
        kind, at, one = chance.randint(1, 6), chance.randrange(many), chance.choice([-1, 1])
        if kind == 1:
            empty[at] += one
        elif kind == 2:
            lift[at] = lift[at] + Form(width, some_terms(chance, width, 1, 1, 3))
        elif kind == 3 and joins[at]:
            joins[at].pop(chance.randrange(len(joins[at])))
        elif kind == 4:
            joins[at].append((chance.randrange(many), chance.randrange(many), one))
        elif kind == 5 and changes:
            chance.choice(changes)[1][at][chance.randrange(many)] += one
        elif kind == 6 and asks:
            chance.choice(asks)[1][at] += one
    return Plan(width, empty, lift, joins, changes, asks)


def with_more_numbers(chance, plan, more):
    """A plan that keeps more numbers, of any kind, of which no ask is told."""
    width, empty, lift, joins, changes, asks = parts_of_plan(plan)
    many = len(plan) + more
    empty += [chance.randint(-2, 2) for _ in range(more)]
    lift += [Form(width, some_terms(chance, width, chance.randint(0, 2), 1, 2)) for _ in range(more)]
    for _ in range(more):
        joins.append([(chance.randrange(many), chance.randrange(many), chance.randint(-2, 2))
                      for _ in range(chance.randint(0, 3))])
    changes = [(name, [line + [0] * more for line in matrix]
                + [[chance.choice([0, 0, 1, -1, 2]) for _ in range(many)] for _ in range(more)])
               for name, matrix in changes]
    return Plan(width, empty, lift, joins, changes, [(name, line + [0] * more) for name, line in asks])


def product_of(one, other):
    """The product of two matrices."""
    return [[sum(entry * part for entry, part in zip(line, column)) for column in zip(*other)] for line in one]


def mixed(chance, plan, times=6, most=2):
    """A plan whose numbers are whole combinations of those of a plan, and these of them."""
    many = len(plan)
    there = [[int(one == other) for other in range(many)] for one in range(many)]
    back = [list(line) for line in there]
    for _ in range(times if many > 1 else 0):
        one, other = chance.sample(range(many), 2)
        factor = chance.randint(-most, most)
        there[one] = [entry + factor * part for entry, part in zip(there[one], there[other])]
        for line in back:
            line[other] -= factor * line[one]
    width, empty, lift, joins, changes, asks = parts_of_plan(plan)
    lift = [sum((factor * form for factor, form in zip(line, lift)), Form(width, [])) for line in there]
    squares = []
    for line in joins:
        square = [[0] * many for _ in range(many)]
        for one, other, factor in line:
            square[one][other] += factor
        squares.append(product_of(product_of([list(column) for column in zip(*back)], square), back))
    joins = [[(one, other, sum(line[at] * squares[at][one][other] for at in range(many)))
              for one in range(many) for other in range(many)] for line in there]
    joins = [[item for item in line if item[2]] for line in joins]
    changes = [(name, product_of(product_of(there, matrix), back)) for name, matrix in changes]
    asks = [(name, product_of([line], back)[0]) for name, line in asks] if many else asks
    return Plan(width, [sum(a * b for a, b in zip(line, empty)) for line in there], lift, joins, changes, asks)
