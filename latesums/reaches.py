"""Reaches: what is asked of rows behind context steps, as vectors, by the fewest steps that tell two rows apart."""

from latesums.echelons import Echelon
from latesums.keepers import reduced
from latesums.lots import basis_of
from latesums.vectors import Mover, heads_of, tails_of, vector_of, word_worths


class Gap:
    """By how much the worths of words of the lot of a wish are greater on one row than on another one."""

    def __init__(self, wish, one, other):
        words = {word: True for vector in basis_of(wish).vectors for word in vector}
        first, second = word_worths(words, one), word_worths(words, other)
        self.sizes = {word: first[word] - second[word] for word in words}

    def of(self, vector):
        """By how much the worth of a vector of the lot is greater."""
        return sum([factor * self.sizes[word] for word, factor in vector.items()])


class Reach:
    """What the asks of a wish tell of a row by so many context steps, until something tells two rows apart.

    `found` are tuples of a vector, of the move by which it comes of an earlier one, and of the index of that one. A
    move is `("before", letter)` or `("after", letter)`, for what a cell put in there brings with this letter, or
    `("change", name)`; for an ask it is the name, and the index None. `apart` is None or the index of the first one
    that tells the rows apart, which comes by as few steps as one that does so modulo a number.
    """

    def __init__(self, wish, gap, modulus):
        self.basis = basis_of(wish)
        self.movers = [(name, Mover(change, None)) for name, change in wish.changes()]
        self.gap = gap
        self.echelon = Echelon(len(self.basis.words), modulus)
        self.found = []
        self.depths = []
        self.apart = None

    def run(self, wish, limit):
        """Meets what the asks tell by any steps, or by fewer than a limit, until the rows are told apart."""
        for name, form in wish.asks():
            self.meet(vector_of(form), name, None, 0)
        at = 0
        while at < len(self.found) and self.apart is None:
            depth = self.depths[at] + 1
            if limit is not None and depth >= limit:
                break
            moved = self.moved(self.found[at][0])
            for vector, move in moved:
                self.meet(vector, move, at, depth)
            at = at + 1
        return self

    def moved(self, vector):
        """What comes of a vector by one step, each with its move."""
        return ([(tail, ("before", letter)) for letter, tail in tails_of(vector).items()]
                + [(head, ("after", letter)) for letter, head in heads_of(vector).items()]
                + [(mover.moved(vector), ("change", name)) for name, mover in self.movers])

    def meet(self, vector, move, back, depth):
        """Takes a vector that is no sum of multiples of found ones."""
        if self.apart is not None:
            return
        if not self.echelon.grow(reduced(self.basis.parts(vector), self.echelon.modulus)):
            return
        if self.gap.of(vector) != 0:
            self.apart = len(self.found)
        self.found.append((vector, move, back))
        self.depths.append(depth)

    def way(self):
        """The vectors and moves from the one that tells the rows apart back to an ask."""
        steps, at = [], self.apart
        while at is not None:
            vector, move, at = self.found[at]
            steps.append((vector, move))
        return steps
