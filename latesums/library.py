"""Libraries: wishes kept by names."""

from latesums.checks import is_name
from latesums.errors import InvalidName, InvalidPlan, NothingToUndo, TakenName, UnknownName
from latesums.lots import basis_of, check_wish
from latesums.plans import Plan, missing_names
from latesums.stories import is_right


class Library:
    """Wishes by names, with the steps by which they came in, which can be undone."""

    def __init__(self):
        self._kept = {}
        # Each step with the wish that was kept by its name ahead of it, or None.
        self._steps = []

    def put(self, name, wish):
        """Keeps one more wish."""
        if not is_name(name):
            raise InvalidName(name)
        if name in self._kept:
            raise TakenName(name)
        check_wish(wish)
        self._steps.append((("put", name), None))
        self._kept[name] = wish

    def drop(self, name):
        """Takes a wish out."""
        self._steps.append((("drop", name), self.wish_of(name)))
        del self._kept[name]

    def change(self, name, wish):
        """Replaces a wish."""
        before = self.wish_of(name)
        check_wish(wish)
        self._steps.append((("change", name), before))
        self._kept[name] = wish

    def wish_of(self, name):
        """The wish that is kept by a name."""
        if name not in self:
            raise UnknownName(name)
        return self._kept[name]

    def names(self):
        """All names, in order."""
        return sorted(list(self._kept))

    def kept_by(self, plan):
        """The names, in order, of the wishes that a plan fits and for which it is right."""
        if not isinstance(plan, Plan):
            raise InvalidPlan(plan)
        return [name for name in self.names()
                if not missing_names(plan, self._kept[name]) and is_right(plan, self._kept[name])]

    def same_lot(self, wish):
        """The names, in order, of the wishes of the same width whose lot is that of a wish."""
        check_wish(wish)
        return [name for name in self.names() if have_same_lot(self._kept[name], wish)]

    def back(self):
        """Undoes the last step that has not been undone."""
        if not self._steps:
            raise NothingToUndo()
        (_, name), before = self._steps.pop()
        if before is None:
            del self._kept[name]
        else:
            self._kept[name] = before

    def log(self):
        """The steps that have not been undone, from the first to the last."""
        return [step for step, _ in self._steps]

    def copy(self):
        """An independent library that keeps the same wishes and has the same steps to undo."""
        other = Library()
        other._kept = dict(self._kept)
        other._steps = list(self._steps)
        return other

    def __len__(self):
        return len(self._kept)

    def __contains__(self, name):
        return isinstance(name, str) and name in self._kept

    def __eq__(self, other):
        return isinstance(other, Library) and self._kept == other._kept


def have_same_lot(one, other):
    """Whether two wishes have the same width and the same lot."""
    if one.width != other.width or len(basis_of(one).words) != len(basis_of(other).words):
        return False
    # Of as many independent forms whole combinations make one lot only if all of them are in it.
    for vector in basis_of(one).vectors:
        if basis_of(other).told(vector) is None:
            return False
    return True
