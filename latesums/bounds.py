"""Bounds: how many bits numbers can have, so that remainders tell them."""

from latesums.grids import degree_of


def bits_above(number):
    """The least number of bits such that 2 to its power is at least a number above 0."""
    return (number - 1).bit_length()


def greatest(numbers):
    """The greatest of some numbers without their signs, but at least 1."""
    return max([abs(number) for number in numbers], default=1) or 1


def fault_bits(plan, wish, keeper, steps):
    """Bits for what a plan tells less what it should, for stories of so many steps over the cells of a hunt."""
    if steps == 0:
        return 0
    degree = degree_of([letter for letters in keeper.lifts for letter in letters])
    return 2 + max(told_bits(plan, wish, steps, degree), worth_bits(wish, steps, degree))


def told_bits(plan, wish, steps, degree):
    """Bits for what a plan tells for stories of so many steps over cells with parts up to a degree."""
    names = dict(wish.changes())
    lift = greatest([sum([abs(factor) for factor, _ in form.terms()]) for form in plan.lift()])
    join = greatest([sum([abs(factor) for _, _, factor in line]) for line in plan.joins()])
    change = greatest([sum([abs(factor) for factor in line])
                       for name, matrix in plan.changes() if name in names for line in matrix])
    told = greatest([sum([abs(factor) for factor in factors]) for _, factors in plan.asks()])
    # A story has one join less than cells, and its other steps are changes: either as many cells as can be are the
    # worst, or a single one.
    cell = bits_above(lift) + degree * bits_above(max(degree, 1))
    many = (steps + 1) // 2
    joined = many * cell + (many - 1) * bits_above(join) + bits_above(change)
    return bits_above(told) + max(joined, cell + (steps - 1) * bits_above(change))


def worth_bits(wish, steps, degree):
    """Bits for the worths of the asks on the rows of stories of so many steps over cells with parts up to a degree."""
    terms = [(factor, letters) for _, form in wish.asks() for factor, letters in form.terms()]
    most = max([len(letters) for _, letters in terms], default=0)
    part = bits_above(max(degree, 1)) + (steps - 1) * growth_bits([change for _, change in wish.changes()])
    return (bits_above(greatest([sum([abs(factor) for factor, _ in terms])])) + most * bits_above(steps)
            + exponents_of([letters for _, letters in terms]) * part)


def growth_bits(changes):
    """Bits for the factor by which changes let parts grow that are at least 1."""
    return bits_above(greatest([sum([abs(entry) for entry in line]) + abs(offset)
                                for change in changes for line, offset in zip(change.matrix(), change.offsets())]))


def exponents_of(words):
    """The greatest sum of all exponents in one of some words."""
    return max([sum([sum(letter) for letter in word]) for word in words], default=0)


def minor_bits(lists, many):
    """Bits for the determinants that so many of some lists of numbers have."""
    sizes = sorted([bits_above(greatest(numbers)) for numbers in lists], reverse=True)
    return sum(sizes[:many]) + many * bits_above(max(many, 1)) + 1
