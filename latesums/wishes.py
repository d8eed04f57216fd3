"""Wishes: what is asked of rows, and the changes that are done to them."""

from latesums.changes import fits_change
from latesums.checks import is_named, is_width
from latesums.errors import InvalidAsk, InvalidItem, InvalidList, InvalidNumber
from latesums.forms import fits_form


class Wish:
    """Forms that are asked and changes that may be done, each with a name."""

    def __init__(self, width, asks, changes):
        if not is_width(width):
            raise InvalidNumber(width)
        check_asks(asks, width)
        check_changes(changes, width)
        self.width = width
        self._asks = list(asks)
        self._changes = list(changes)
        # The lot is found when it is first needed, and kept here: it is long work, and a wish stays as it is.
        self.basis = None

    def asks(self):
        """The list of the names and forms that are asked."""
        return list(self._asks)

    def changes(self):
        """The list of the names and changes."""
        return list(self._changes)

    def __eq__(self, other):
        return (isinstance(other, Wish) and self.width == other.width
                and self._asks == other._asks and self._changes == other._changes)


def check_asks(asks, width):
    """Raises an error unless asks are a list of unlike names with forms of a width."""
    if not isinstance(asks, list):
        raise InvalidList(asks)
    taken = {}
    for item in asks:
        if not is_named(item, taken) or not fits_form(item[1], width):
            raise InvalidAsk(item)
        taken[item[0]] = True


def check_changes(changes, width):
    """Raises an error unless changes are a list of unlike names with changes of a width."""
    if not isinstance(changes, list):
        raise InvalidList(changes)
    taken = {}
    for item in changes:
        if not is_named(item, taken) or not fits_change(item[1], width):
            raise InvalidItem(item)
        taken[item[0]] = True
