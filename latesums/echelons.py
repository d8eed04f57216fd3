"""Echelons: which columns of many lists of numbers are sums of multiples of others, modulo a number."""

from math import gcd

from latesums.ratios import inverse


class Echelon:
    """What is common to the lists that were put in: their pivots tell all their other numbers.

    The number in each other column is the sum of those at the pivots, each times its factor in `shares`.
    """

    def __init__(self, many, modulus):
        self.modulus = modulus
        self.pivots = []
        self.shares = {column: [] for column in range(many)}
        # Set when a list could not be put in, since the modulus has divisors: then nothing is told.
        self.broken = False

    def grow(self, numbers):
        """Puts in a list unless it is a sum of multiples of those that were; returns whether it did."""
        rests = self.rests(numbers)
        if not rests:
            return False
        pivot = self.unit_column(rests)
        if pivot is None:
            self.broken = True
            return False
        own, unit = self.shares[pivot], inverse(rests[pivot], self.modulus)
        shares = {}
        for column, factors in self.shares.items():
            times = rests.get(column, 0) * unit % self.modulus
            if column != pivot:
                left = [(factor - times * part) % self.modulus for factor, part in zip(factors, own)]
                shares[column] = left + [times]
        self.shares = shares
        self.pivots.append(pivot)
        return True

    def rests(self, numbers):
        """By how much the numbers in the columns are not what the pivots tell of them, where this is not 0."""
        head = [numbers[pivot] for pivot in self.pivots]
        found = {}
        for column, factors in self.shares.items():
            told = sum([factor * number for factor, number in zip(factors, head)])
            rest = (numbers[column] - told) % self.modulus
            if rest:
                found[column] = rest
        return found

    def unit_column(self, rests):
        """The first column by whose number can be divided, or None."""
        for column in sorted(list(rests)):
            if gcd(rests[column], self.modulus) == 1:
                return column
        return None
