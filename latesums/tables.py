"""Tables: how the worths of the vectors of a basis begin, join and change."""

from latesums.vectors import Mover, form_of


def empty_numbers(basis):
    """The worths of the vectors on the row without cells."""
    return [vector.get((), 0) for vector in basis.vectors]


def lift_forms(basis, width):
    """For each vector a form that has its worth on each row of one cell."""
    # A word of more letters is worth 0 there.
    return [form_of({word: factor for word, factor in vector.items() if len(word) <= 1}, width)
            for vector in basis.vectors]


def change_table(basis, change):
    """For each vector the factors of all vectors in what a change makes of it."""
    mover = Mover(change, None)
    return [basis.told(mover.moved(vector)) for vector in basis.vectors]


def join_tables(basis):
    """For each vector the products `(i, j, factor)` that its worth on two rows joined is the sum of."""
    return [join_table(basis, vector) for vector in basis.vectors]


def join_table(basis, vector):
    """The products whose sum is the worth of one vector on two rows joined."""
    # The worth is that of each head of a word on the first row times that of its tail on the second one: a sum of
    # products of vectors. The words of the basis tell the factors, first those behind each head, then those of these.
    behind = [basis.factors([vector.get(head + tail, 0) for tail in basis.words]) for head in basis.words]
    many = len(basis.words)
    factors = [basis.factors([row[second] for row in behind]) for second in range(many)]
    return [(first, second, factors[second][first])
            for first in range(many) for second in range(many) if factors[second][first] != 0]
