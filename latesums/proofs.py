"""Proofs: that what a hunt found modulo a number holds for the numbers themselves."""

from latesums.ratios import whole_row


def is_proved(hunt):
    """Whether the numbers of all stories hang together as a hunt that met no wrong story tells, and have no fault."""
    return proved_lists(hunt) is not None


def proved_lists(hunt):
    """Lists of which the numbers of all stories, and no others, are sums of multiples, if that is what a hunt tells.

    There are as many as found stories. None if it is not so, or if there is a fault: then the modulus was too small,
    or had a divisor in common with some number on the way.
    """
    # The shares are fractions, told from their remainders. All lists of numbers that have them make a space, which is
    # checked here without remainders: it has those of the cells, of joins and of changes, and no fault.
    spread = spread_numbers(hunt.echelon)
    if spread is None:
        return None
    common, lines = spread
    for column in hunt.echelon.shares:
        if not is_kept(hunt.keeper, own_weights(column, lines[column], hunt.echelon.pivots, common), lines):
            return None
    for _, factors in hunt.faults:
        if told_parts(dict(factors), lines):
            return None
    return [[lines[column].get(at, 0) for column in range(len(lines))] for at in range(len(hunt.found))]


def is_kept(keeper, weights, lines):
    """Whether a weighted sum of the numbers is 0 for all cells, joins and changes, if the lines tell the numbers."""
    if not is_zero_cell(keeper, weights) or not is_zero_join(keeper, weights, lines):
        return False
    for table in keeper.tables.values():
        if told_parts(weighted(table, weights), lines):
            return False
    return True


def spread_numbers(echelon):
    """A number above 0 and, for each column, its multiple as a sum of multiples of the numbers at the pivots.

    Each sum is a dict from the index of a pivot to a whole number. None if the modulus is too small to tell them.
    """
    remainders = {(column, at): factor for column, factors in echelon.shares.items()
                  for at, factor in enumerate(factors)}
    remainders[(-1, 0)] = 1
    row = whole_row(remainders, echelon.modulus, 1 << (echelon.modulus.bit_length() // 2 - 8))
    if row is None:
        return None
    lines = {pivot: {at: row[(-1, 0)]} for at, pivot in enumerate(echelon.pivots)}
    for column, factors in echelon.shares.items():
        lines[column] = {at: row[(column, at)] for at in range(len(factors)) if row[(column, at)] != 0}
    return row[(-1, 0)], lines


def own_weights(column, line, pivots, common):
    """The factors of the numbers in the sum that has to be 0, since the pivots tell the number in a column."""
    weights = {pivots[at]: -factor for at, factor in line.items()}
    weights[column] = common
    return weights


def weighted(table, weights):
    """The factors in the sum of lines of a table, each line times its weight."""
    sums = {}
    for line, weight in weights.items():
        for at, factor in table[line]:
            sums[at] = sums.get(at, 0) + weight * factor
    return sums


def told_parts(factors, lines):
    """What a sum of multiples of numbers is, told by the numbers at the pivots: the parts that are not 0."""
    sums = {}
    for at, factor in factors.items():
        for pivot, share in lines[at].items():
            sums[pivot] = sums.get(pivot, 0) + factor * share
    return {pivot: part for pivot, part in sums.items() if part != 0}


def is_zero_cell(keeper, weights):
    """Whether a weighted sum of the numbers is 0 for all rows of one cell."""
    sums = weighted([list(letters.items()) for letters in keeper.lifts], weights)
    return not [letter for letter, factor in sums.items() if factor != 0]


def is_zero_join(keeper, weights, lines):
    """Whether a weighted sum of the numbers is 0 for all joins of two of the lists that the lines tell."""
    tensor = {}
    for number, weight in weights.items():
        for one, other, factor in keeper.products[number]:
            row = tensor.setdefault(one, {})
            row[other] = row.get(other, 0) + weight * factor
    sums = {}
    for one, row in tensor.items():
        parts = told_parts(row, lines)
        for first, share in lines[one].items():
            for second, part in parts.items():
                sums[(first, second)] = sums.get((first, second), 0) + share * part
    return not [place for place, worth in sums.items() if worth != 0]
