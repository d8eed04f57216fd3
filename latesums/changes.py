"""Changes of whole rows: one linear map with offsets for each cell, and perhaps a turn of the row."""

from latesums.checks import fits_row, is_line
from latesums.errors import InvalidChange, InvalidList, InvalidNumber, InvalidRow


class Change:
    """A change of the cells of a row, and of their order if `turns` is True."""

    def __init__(self, matrix, offsets, *, turns=False):
        if not is_matrix(matrix):
            raise InvalidList(matrix)
        if not is_line(offsets, len(matrix)):
            raise InvalidList(offsets)
        if not isinstance(turns, bool):
            raise InvalidNumber(turns)
        self.width = len(matrix)
        self.turns = turns
        self._matrix = [list(line) for line in matrix]
        self._offsets = list(offsets)

    def matrix(self):
        """The factors of the parts: a list for each part of the changed cell."""
        return [list(line) for line in self._matrix]

    def offsets(self):
        """What is added to each part of the changed cell."""
        return list(self._offsets)

    def row(self, row):
        """The changed row of a row."""
        if not fits_row(row, self.width):
            raise InvalidRow(row)
        cells = [tuple(changed_parts(self._matrix, self._offsets, cell)) for cell in row]
        return cells[::-1] if self.turns else cells

    def then(self, other):
        """The change that does first this one, then the other one."""
        if not fits_change(other, self.width):
            raise InvalidChange(other)
        matrix = [[dot(line, column) for column in zip(*self._matrix)] for line in other._matrix]
        offsets = changed_parts(other._matrix, other._offsets, self._offsets)
        return Change(matrix, offsets, turns=self.turns != other.turns)

    def __eq__(self, other):
        return (isinstance(other, Change) and self._matrix == other._matrix
                and self._offsets == other._offsets and self.turns == other.turns)


def fits_change(value, width):
    """Whether a value is a change of the cells of a width."""
    return isinstance(value, Change) and value.width == width


def is_matrix(value):
    """Whether a value is a list of 1 or 2 lists of as many whole numbers."""
    if not isinstance(value, list) or not 1 <= len(value) <= 2:
        return False
    for line in value:
        if not is_line(line, len(value)):
            return False
    return True


def dot(factors, parts):
    """The sum of the parts, each times its factor."""
    return sum([factor * part for factor, part in zip(factors, parts)])


def changed_parts(matrix, offsets, parts):
    """The list of the parts that a change makes of the parts of a cell."""
    return [offset + dot(line, parts) for line, offset in zip(matrix, offsets)]
