"""Losses: rows that a change makes alike."""

from math import gcd

from latesums.forms import letter_image
from latesums.grids import row_where
from latesums.vectors import cleared, take_off


def lost_rows(vectors, change):
    """Two rows on which a vector of a lot is worth unlike, while all are worth the same on the changed rows; or None.

    The vectors are a basis of the lot of a wish that has the change.
    """
    # A change whose matrix can be undone takes no two forms to one, so that it loses nothing. Otherwise cells that
    # differ by a step that the matrix takes to 0 become alike. If the lot doesn't see such steps, it sees of each cell
    # one sum of multiples of its parts alone. The change makes of this sum a multiple and an offset, and loses
    # something only if this multiple is by 0: then all rows of as many cells become alike. The multiple is the trace.
    for step in lost_steps(change.matrix()):
        for vector in vectors:
            rows = rows_by_step(vector, step)
            if rows is not None:
                return rows
    return None


def lost_steps(matrix):
    """The steps between cells by which rows may become alike, in the order in which they have to be tried."""
    if len(matrix) == 1:
        return [(1,)] if matrix[0][0] == 0 else []
    (first, second), (third, fourth) = matrix
    if first * fourth != second * third:
        return []
    lines = [line for line in matrix if line != [0, 0]]
    steps = [(line[1] // gcd(line[0], line[1]), -line[0] // gcd(line[0], line[1])) for line in lines[:1]]
    return steps + [(1, 0), (0, 1)] if first + fourth == 0 else steps


def rows_by_step(vector, step):
    """Two rows that differ by a step at one cell and on which a vector is worth unlike, or None if there are none."""
    for many in range(1, max([len(word) for word in vector], default=0) + 1):
        words = {word: factor for word, factor in vector.items() if len(word) == many}
        for place in range(many):
            unlike = unlike_by_step(words, place, step)
            if unlike:
                # No step matters to shorter words, and longer ones are worth 0 on this row.
                row = row_where(unlike, len(step))
                moved = tuple([part + more for part, more in zip(row[place], step)])
                return row, row[:place] + [moved] + row[place + 1:]
    return None


def unlike_by_step(words, place, step):
    """By how much words are worth more, on rows with as many cells as letters, behind a step of the cell at a place."""
    unit = [[1 if one == other else 0 for other in range(len(step))] for one in range(len(step))]
    sums = {}
    for word, factor in words.items():
        head, tail = word[:place], word[place + 1:]
        image = letter_image(word[place], unit, list(step))
        take_off(image, 1, {word[place]: 1})
        take_off(sums, -factor, {head + (letter,) + tail: times for letter, times in image.items()})
    return cleared(sums, None)
