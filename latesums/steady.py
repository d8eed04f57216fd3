"""Steady plans: those whose numbers go by the row alone, in whatever way it was made."""

from latesums.forms import letter_image
from latesums.grids import cell_where
from latesums.hunts import Hunt
from latesums.keepers import Keeper, applied
from latesums.moduli import FIRST_BITS, modulus_of, prime_from
from latesums.plans import check_fit
from latesums.proofs import proved_lists, weighted
from latesums.vectors import cleared


def unsteady(plan, wish):
    """Two stories with cells that have the same row and unlike numbers, or None if there are none."""
    check_fit(plan, wish)
    # Stories with one row come of each other by three rules: a cell may be changed before or behind it is made a row,
    # a join behind or ahead of its parts, and three rows may be joined in two ways. So it is enough to check these.
    keeper, changes = Keeper([plan], wish), wish.changes()
    found = unlike_cells(keeper, changes)
    bits = FIRST_BITS
    while found is None:
        hunt = Hunt(keeper, [], modulus_of(bits)).run(wish.width, None)
        if not hunt.echelon.broken:
            tales = [(story, numbers) for _, story, numbers, _ in hunt.found]
            found = unlike_rows(keeper, changes, tales, hunt.modulus)
            if found is None and is_steady(hunt, changes):
                return None
        bits = prime_from(2 * bits)
    return found


def is_steady(hunt, changes):
    """Whether the rules hold for the numbers of all stories, and not only modulo the number of a hunt."""
    lists = proved_lists(hunt)
    return lists is not None and unlike_rows(hunt.keeper, changes, [((), numbers) for numbers in lists], None) is None


def unlike_cells(keeper, changes):
    """A changed cell and the cell that is changed, as stories with unlike numbers, or None."""
    lines = [list(letters.items()) for letters in keeper.lifts]
    for name, change in changes:
        for line, table in zip(lines, keeper.tables[name]):
            unlike = weighted(lines, dict(table))
            for letter, factor in line:
                for image, times in letter_image(letter, change.matrix(), change.offsets()).items():
                    unlike[image] = unlike.get(image, 0) - factor * times
            unlike = cleared({(letter,): factor for letter, factor in unlike.items()}, None)
            if unlike:
                cell = cell_where(unlike, change.width)
                return ("change", name, ("cell", cell)), ("cell", change.row([cell])[0])
    return None


def unlike_rows(keeper, changes, tales, modulus):
    """Two stories made of some, given with their numbers, with one row and unlike numbers by a modulus, or None."""
    lefts = [keeper.left_table(numbers, modulus) for _, numbers in tales]
    joins = [[applied(left, numbers, modulus) for _, numbers in tales] for left in lefts]
    found = unlike_joins(keeper, tales, lefts, joins, modulus)
    for name, change in changes:
        if found is None:
            found = unlike_changes(keeper, name, change.turns, tales, joins, modulus)
    return found


def unlike_joins(keeper, tales, lefts, joins, modulus):
    """Two stories that join three rows in two ways and have unlike numbers, or None."""
    for one, (first, _) in enumerate(tales):
        for other, (second, _) in enumerate(tales):
            left = keeper.left_table(joins[one][other], modulus)
            for last, (third, numbers) in enumerate(tales):
                if applied(left, numbers, modulus) != applied(lefts[one], joins[other][last], modulus):
                    return ("join", ("join", first, second), third), ("join", first, ("join", second, third))
    return None


def unlike_changes(keeper, name, turns, tales, joins, modulus):
    """Two stories that change a join, and join the changed parts, and have unlike numbers, or None."""
    changed = [keeper.changed(name, numbers, modulus) for _, numbers in tales]
    lefts = [keeper.left_table(numbers, modulus) for numbers in changed]
    for one, (first, _) in enumerate(tales):
        for other, (second, _) in enumerate(tales):
            ahead, behind = (other, one) if turns else (one, other)
            if keeper.changed(name, joins[one][other], modulus) != applied(lefts[ahead], changed[behind], modulus):
                parts = ("change", name, tales[ahead][0]), ("change", name, tales[behind][0])
                return ("change", name, ("join", first, second)), ("join", parts[0], parts[1])
    return None
