"""Spans modulo a number: which words tell the vectors of a lot apart, and how the vectors hang together."""

from math import gcd

from latesums.ratios import inverse
from latesums.vectors import Mover, cleared, cut_vectors, take_off, word_place


class Span:
    """Vectors modulo a number, the rows: each has a pivot, a word at which it is 1 and all others are 0."""

    def __init__(self, modulus):
        self.modulus = modulus
        self.pivots = []
        self.rows = {}

    def rest(self, vector):
        """What is left of a vector when it is made 0 at all pivots."""
        left = {word: factor for word, factor in vector.items()}
        for word, factor in vector.items():
            if word in self.rows:
                take_off(left, factor, self.rows[word])
        return cleared(left, self.modulus)

    def grow(self, vector):
        """Adds a row for a vector unless the rows tell it already, or there is no word to be its pivot."""
        left = self.rest(vector)
        pivot = self.unit_word(left)
        if pivot is None:
            return
        factor = inverse(left[pivot], self.modulus)
        row = cleared({word: factor * entry for word, entry in left.items()}, self.modulus)
        for word in self.pivots:
            self.rows[word] = self.without(self.rows[word], pivot, row)
        self.pivots.append(pivot)
        self.rows[pivot] = row

    def unit_word(self, vector):
        """The last word in order at which a vector can be divided by its factor, or None."""
        for word in sorted(list(vector), key=word_place, reverse=True):
            if gcd(vector[word], self.modulus) == 1:
                return word
        return None

    def without(self, vector, pivot, row):
        """The vector that comes of a vector if it is made 0 at the pivot of a row."""
        if pivot not in vector:
            return vector
        left = {word: factor for word, factor in vector.items()}
        take_off(left, vector[pivot], row)
        return cleared(left, self.modulus)


def closed_span(starts, changes, modulus):
    """The least span that has the starts and is closed under cuts and changes, or less if this modulus doesn't do."""
    span = Span(modulus)
    movers = [Mover(change, modulus) for change in changes]
    for vector in starts:
        span.grow(vector)
    done = 0
    while done < len(span.pivots):
        # A row may become another one later, but then only by rows whose own cuts and changes are taken, too.
        row = span.rows[span.pivots[done]]
        for vector in cut_vectors(row) + [mover.moved(row) for mover in movers]:
            span.grow(vector)
        done += 1
    return span
