"""Lattices: all whole combinations of some lists of whole numbers."""


def bezout(one, other):
    """The greatest common divisor of two numbers above 0, and two factors by which they sum up to it."""
    above, below = one, other
    outer, inner = (1, 0), (0, 1)
    while below:
        many, rest = divmod(above, below)
        above, below = below, rest
        outer, inner = inner, (outer[0] - many * inner[0], outer[1] - many * inner[1])
    return above, outer[0], outer[1]


def column_lattice(columns, many, modulus):
    """The lattice of columns, each of so many numbers, and of all columns of multiples of the modulus.

    It is given by an upper triangle: list number k begins with k times 0 and a divisor of the modulus, and the lists
    above it have at this place at least 0 and less than this divisor.
    """
    lattice = [[modulus if one == other else 0 for other in range(many)] for one in range(many)]
    for column in columns:
        put_in(lattice, column, modulus)
    # The less there is above the divisors, the shorter are the numbers in the lot.
    for at in range(many):
        for above in range(at):
            times = lattice[above][at] // lattice[at][at]
            lattice[above] = [entry - times * part for entry, part in zip(lattice[above], lattice[at])]
    return lattice


def put_in(lattice, column, modulus):
    """Puts a column of numbers, from 0 to below the modulus, in the triangle of a lattice."""
    # Multiples of the modulus are in the lattice at every place, so all numbers may be reduced by it.
    for at in range(len(lattice)):
        row = lattice[at]
        if column[at] == 0:
            continue
        if column[at] % row[at] == 0:
            times = column[at] // row[at]
            column = [(entry - times * part) % modulus for entry, part in zip(column, row)]
            continue
        divisor, first, second = bezout(row[at], column[at])
        lattice[at] = [(first * part + second * entry) % modulus for entry, part in zip(column, row)]
        down, up = row[at] // divisor, column[at] // divisor
        column = [(down * entry - up * part) % modulus for entry, part in zip(column, row)]
