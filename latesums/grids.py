"""Grids: small cells at which sums of letters that are not 0 everywhere are not all 0."""

from latesums.forms import letter_worth


def grid(width, degree):
    """Cells at which a sum of letters with exponents up to `degree` in sum is 0 only if it is 0 everywhere."""
    if width == 1:
        return [(part,) for part in range(degree + 1)]
    return [(part, other) for part in range(degree + 1) for other in range(degree + 1 - part)]


def degree_of(letters):
    """The greatest sum of exponents of some letters."""
    return max([sum(letter) for letter in letters], default=0)


def row_where(vector, width):
    """A row of as many cells as each word of a vector has letters, on which the vector is not worth 0."""
    row, left = [], vector
    while () not in left:
        cell = cell_where(left, width)
        row.append(cell)
        left = behind_cell(left, cell)
    return row


def cell_where(vector, width):
    """The first cell of a grid behind which something is left of a vector whose words all have letters."""
    cells = grid(width, degree_of([word[0] for word in vector]))
    return [cell for cell in cells if behind_cell(vector, cell)][0]


def behind_cell(vector, cell):
    """The vector of what is left of words behind their first letter if that letter stands at a cell."""
    sums = {}
    for word, factor in vector.items():
        sums[word[1:]] = sums.get(word[1:], 0) + factor * letter_worth(word[0], cell)
    return {word: factor for word, factor in sums.items() if factor != 0}
