"""Hunts: stories, in the order of their steps, from whose numbers those of all stories come; or one told wrongly."""

from heapq import heappop, heappush

from latesums.echelons import Echelon
from latesums.grids import degree_of, grid
from latesums.keepers import applied


class Hunt:
    """Goes through the stories of a wish by a keeper's tables, modulo a number, until nothing new can come.

    `faults` are tuples of a name and of factors: the sum of the multiples of the numbers has to be 0 for each story.
    `found` are tuples of the steps, the story, its numbers and their left table; `wrong` is None or a tuple of the
    steps, the story and the name of a fault, and the story has as few steps as one with a fault modulo this number.
    """

    def __init__(self, keeper, faults, modulus):
        self.keeper = keeper
        self.faults = faults
        self.modulus = modulus
        self.echelon = Echelon(len(keeper.lifts), modulus)
        self.found = []
        self.wrong = None
        self._queue = []

    def run(self, width, limit):
        """Meets all stories, or those of fewer steps than a limit, until one is wrong; returns the hunt."""
        # The numbers of any story are sums of multiples of those of found ones without more steps. As tables are
        # linear in each argument, joins and changes of found stories are enough.
        cells = grid(width, degree_of([letter for letters in self.keeper.lifts for letter in letters]))
        for cell in cells:
            self.meet(1, ("cell", cell), self.keeper.of_cell(cell, self.modulus))
        while self._queue and self.wrong is None and not self.echelon.broken:
            steps, one, other = heappop(self._queue)
            if limit is not None and steps >= limit:
                break
            self.go_on(steps, one, other)
        return self

    def go_on(self, steps, one, other):
        """Meets the join of two found stories, or the change of one where `other` is below 0."""
        _, story, numbers, left = self.found[one]
        if other >= 0:
            joined = applied(left, self.found[other][2], self.modulus)
            self.meet(steps, ("join", story, self.found[other][1]), joined)
        else:
            name = list(self.keeper.tables)[-1 - other]
            self.meet(steps, ("change", name, story), self.keeper.changed(name, numbers, self.modulus))

    def meet(self, steps, story, numbers):
        """Takes a story that is no sum of multiples of found ones."""
        if self.wrong is not None or not self.echelon.grow(numbers):
            return
        at = len(self.found)
        self.found.append((steps, story, numbers, self.keeper.left_table(numbers, self.modulus)))
        for name, factors in self.faults:
            if applied([factors], numbers, self.modulus) != [0]:
                self.wrong = (steps, story, name)
                return
        for change in range(len(self.keeper.tables)):
            heappush(self._queue, (steps + 1, at, -1 - change))
        for one in range(at + 1):
            heappush(self._queue, (steps + self.found[one][0] + 1, at, one))
            if one != at:
                heappush(self._queue, (steps + self.found[one][0] + 1, one, at))
