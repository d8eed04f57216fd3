"""Contexts: which rows and changes are told apart by what can stand around a row and be done to it."""

from latesums.bounds import bits_above, exponents_of, greatest, growth_bits
from latesums.changes import fits_change
from latesums.checks import fits_cell, fits_row
from latesums.errors import InvalidChange, InvalidItem, InvalidList, InvalidRow, UnknownName
from latesums.grids import cell_where, row_where
from latesums.losses import lost_rows
from latesums.lots import basis_of, check_wish
from latesums.moduli import FIRST_BITS, LONG_BITS, modulus_of, prime_from
from latesums.reaches import Gap, Reach
from latesums.vectors import Mover, cleared, heads_of, tails_of, take_off


def row_behind(wish, row, steps):
    """The row that comes of a row by context steps, one after another."""
    check_wish(wish)
    check_row(wish, row)
    if not isinstance(steps, list):
        raise InvalidList(steps)
    changes = dict(wish.changes())
    for step in steps:
        if not is_step(step, wish.width, changes):
            raise InvalidItem(step)
    found = list(row)
    for step in steps:
        found = row_by_step(changes, found, step)
    return found


def told_apart(wish, one, other):
    """The fewest context steps behind which an ask tells two rows apart, and its name; None if there are none."""
    check_wish(wish)
    check_row(wish, one)
    check_row(wish, other)
    return least_apart(wish, one, other)


def alike(wish, one, other):
    """Whether no row has two changed rows, one by each of two changes, that are told apart."""
    check_wish(wish)
    check_change(wish, one)
    check_change(wish, other)
    return not unlike_vectors(wish, one, other)


def apart(wish, one, other):
    """A row with the fewest cells that two changes change to rows told apart, the steps and the ask; None if alike."""
    check_wish(wish)
    check_change(wish, one)
    check_change(wish, other)
    vectors = unlike_vectors(wish, one, other)
    if not vectors:
        return None
    # On rows with fewer cells than the least word has letters all of these are worth 0, and on rows with as many
    # cells only the words of this length are not.
    many = min([len(word) for vector in vectors for word in vector])
    short = [{word: factor for word, factor in vector.items() if len(word) == many} for vector in vectors]
    row = row_where([vector for vector in short if vector][0], wish.width)
    steps, name = least_apart(wish, one.row(row), other.row(row))
    return row, steps, name


def swaps(wish):
    """The pairs of names, in order, of changes that may be done in either order."""
    check_wish(wish)
    changes = dict(wish.changes())
    names = sorted(list(changes))
    return [(name, other) for name in names for other in names
            if name < other and are_swapped(wish, changes[name], changes[other])]


def loses(wish, name):
    """Two rows that are told apart while those that a change makes of them are not, or None."""
    check_wish(wish)
    changes = dict(wish.changes())
    if not isinstance(name, str) or name not in changes:
        raise UnknownName(name)
    return lost_rows(basis_of(wish).vectors, changes[name])


def check_row(wish, row):
    """Raises an error unless a value is a row of the width of a wish."""
    if not fits_row(row, wish.width):
        raise InvalidRow(row)


def check_change(wish, change):
    """Raises an error unless a value is a change of the width of a wish."""
    if not fits_change(change, wish.width):
        raise InvalidChange(change)


def is_step(value, width, changes):
    """Whether a value is a context step for cells of a width and these changes by name."""
    if not isinstance(value, tuple) or len(value) != 2 or not isinstance(value[0], str):
        return False
    if value[0] == "change":
        return isinstance(value[1], str) and value[1] in changes
    return value[0] in ("before", "after") and fits_cell(value[1], width)


def row_by_step(changes, row, step):
    """The row that comes of a row by one context step."""
    if step[0] == "change":
        return changes[step[1]].row(row)
    return [step[1]] + row if step[0] == "before" else row + [step[1]]


def least_apart(wish, one, other):
    """What `told_apart` tells of two rows."""
    gap = Gap(wish, one, other)
    if not [vector for vector in basis_of(wish).vectors if gap.of(vector) != 0]:
        return None
    # A worth that is 0 modulo several numbers is 0 if it is less than their product. As long as a worth by fewer
    # steps could be greater, there is one more reach for it, modulo one more number.
    bits, covered, best = FIRST_BITS, 0, None
    while best is None or covered < gap_bits(wish, gap, len(best) - 1):
        limit = None if best is None else len(best) - 1
        reach = Reach(wish, gap, modulus_of(bits)).run(wish, limit)
        if not reach.echelon.broken:
            covered = covered + bits - 1
            if reach.apart is not None:
                best = reach.way()
        bits = prime_from(max(bits + 1, LONG_BITS))
    return steps_on(wish, best, one, other)


def gap_bits(wish, gap, many):
    """Bits for by how much what the asks tell by fewer than so many steps differs on two rows."""
    if many == 0:
        return 0
    size = greatest([sum([abs(factor) for factor, _ in form.terms()]) for _, form in wish.asks()])
    growth = exponents_of(list(gap.sizes)) * growth_bits([change for _, change in wish.changes()])
    return bits_above(size) + bits_above(greatest(list(gap.sizes.values()))) + (many - 1) * growth + 1


def steps_on(wish, way, one, other):
    """The context steps on two rows by a way that tells them apart, and the name of the ask at its end."""
    changes = dict(wish.changes())
    steps = []
    for at in range(len(way) - 1):
        side, what = way[at][1]
        step = (side, what)
        if side != "change":
            # What a cell brings is its letters' worths times this. At one letter it is not 0, and without the cell
            # there is nothing, since the way is the shortest.
            gap, vector = Gap(wish, one, other), way[at + 1][0]
            parts = tails_of(vector) if side == "before" else heads_of(vector)
            worths = cleared({(letter,): gap.of(part) for letter, part in parts.items()}, None)
            step = (side, cell_where(worths, wish.width))
        one, other = row_by_step(changes, one, step), row_by_step(changes, other, step)
        steps.append(step)
    return steps, way[-1][1]


def unlike_vectors(wish, one, other):
    """What the forms of the lot tell of rows changed by one change less what they tell by the other one."""
    first, second = Mover(one, None), Mover(other, None)
    found = []
    for vector in basis_of(wish).vectors:
        # What is moved may be the very vector of the lot: it must stay as it is.
        unlike = {word: factor for word, factor in first.moved(vector).items()}
        take_off(unlike, 1, second.moved(vector))
        unlike = cleared(unlike, None)
        if unlike:
            found.append(unlike)
    return found


def are_swapped(wish, one, other):
    """Whether two changes of a wish come to the same in either order, as far as the asks can tell."""
    return not unlike_vectors(wish, one.then(other), other.then(one))
