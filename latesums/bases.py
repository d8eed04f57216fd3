"""Bases: whole vectors of which all forms of a lot are whole combinations, each in one way."""

from math import lcm

from latesums.lattices import column_lattice
from latesums.ratios import whole_row
from latesums.spans import closed_span
from latesums.vectors import Mover, cleared, cut_vectors, take_off, word_place


class Basis:
    """Independent vectors and as many words that tell them apart: each vector is 0 at the words of later ones."""

    def __init__(self, words, vectors):
        self.words = words
        self.vectors = vectors
        self._triangle = [[vector.get(word, 0) for word in words] for vector in vectors]

    def factors(self, worths):
        """The factors of the vectors in the whole combination that has these worths at the words, if there is one."""
        left, found = list(worths), []
        for row in self._triangle[::-1]:
            worth, left = left[-1], left[:-1]
            many = worth // row[len(left)]
            if many:
                left = [worth - many * entry for worth, entry in zip(left, row)]
            found.append(many)
        return found[::-1]

    def parts(self, vector):
        """The factors of the vectors of which a vector is known to be a whole combination."""
        return self.factors([vector.get(word, 0) for word in self.words])

    def told(self, vector):
        """The factors of the vectors of which a vector is the whole combination, None if it is none."""
        factors = self.parts(vector)
        left = {word: factor for word, factor in vector.items()}
        for many, other in zip(factors, self.vectors):
            if many:
                take_off(left, many, other)
        return None if cleared(left, None) else factors


def closed_basis(starts, changes):
    """The basis of all whole vectors in the least span that has the starts and is closed under cuts and changes."""
    # On the way to the result fractions grow far beyond it, so this goes by remainders. What comes of them is checked
    # exactly: it has enough vectors if it is closed, and not too many, since they are independent even as remainders.
    # No two of the moduli have a divisor in common and they double in length, so some modulus does in the end.
    bits = 128
    while True:
        basis = basis_by(starts, changes, (1 << bits) + 1, 1 << (bits // 2 - 8))
        if basis is not None and is_closed(basis, starts, changes):
            return basis
        bits = 2 * bits


def basis_by(starts, changes, modulus, most):
    """The basis as it appears modulo a number if all fractions are of numbers up to `most`, otherwise None."""
    span = closed_span(starts, changes, modulus)
    words = sorted(span.pivots, key=word_place)
    rows = [whole_row(span.rows[word], modulus, most) for word in words]
    if None in rows:
        return None
    return Basis(words, saturated(words, rows))


def saturated(pivots, rows):
    """Vectors of which all whole vectors among the combinations of rows by fractions are whole combinations.

    Each row is 0 at the pivots of all others. Each vector that is returned is 0 at the pivots of later rows.
    """
    # The rows are multiplied until each is `common` at its pivot. Then the columns of the factors at one word each
    # make a lattice. Told by a basis of it, the same rows have columns that make all whole columns, so that a
    # combination that is whole at all words has whole factors: these are the vectors.
    common = 1
    for pivot, row in zip(pivots, rows):
        common = lcm(common, row[pivot])
    scales = [common // row[pivot] for pivot, row in zip(pivots, rows)]
    lattice = column_lattice(scaled_columns(rows, scales, common), len(rows), common)
    vectors = []
    for at, row in enumerate(rows):
        vector = {word: scales[at] * factor for word, factor in row.items()}
        for above, other in enumerate(vectors):
            take_off(vector, lattice[above][at], other)
        vectors.append({word: factor // lattice[at][at] for word, factor in cleared(vector, None).items()})
    return vectors


def scaled_columns(rows, scales, modulus):
    """For each word in the rows the list of its factors there, each multiplied by the row's scale and reduced."""
    words = {word: True for row in rows for word in row}
    return [[scale * row.get(word, 0) % modulus for scale, row in zip(scales, rows)] for word in words]


def is_closed(basis, starts, changes):
    """Whether all starts, and all cuts and changes of the vectors of a basis, are whole combinations of these."""
    for vector in starts:
        if basis.told(vector) is None:
            return False
    movers = [Mover(change, None) for change in changes]
    for vector in basis.vectors:
        for image in cut_vectors(vector) + [mover.moved(vector) for mover in movers]:
            if basis.told(image) is None:
                return False
    return True
