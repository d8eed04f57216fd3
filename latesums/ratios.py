"""Whole numbers and fractions behind their remainders by a modulus."""


def inverse(number, modulus):
    """The number that makes a number 1 modulo a modulus with which it has no divisor in common."""
    above, below = modulus, number % modulus
    outer, inner = 0, 1
    while below:
        many, rest = divmod(above, below)
        above, below = below, rest
        outer, inner = inner, outer - many * inner
    return outer % modulus


def centred(number, modulus):
    """The remainder of a number by a modulus that is nearest to 0."""
    rest = number % modulus
    return rest - modulus if 2 * rest > modulus else rest


def divisor_of(number, modulus, most):
    """The least number above 0 that brings a remainder to at most `most` above or below 0."""
    above, below = modulus, number % modulus
    outer, inner = 0, 1
    while below > most:
        many, rest = divmod(above, below)
        above, below = below, rest
        outer, inner = inner, outer - many * inner
    return abs(inner)


def whole_row(row, modulus, most):
    """The least whole multiple of a row of fractions, given by remainders; None if the numbers go beyond `most`."""
    common = 1
    for factor in row.values():
        if abs(centred(common * factor, modulus)) > most:
            common = common * divisor_of(common * factor, modulus, most)
            if common > most:
                return None
    return {word: centred(common * factor, modulus) for word, factor in row.items()}
