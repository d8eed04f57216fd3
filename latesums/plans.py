"""Plans: the numbers that a tree keeps for each stretch, and the tables by which they join and change."""

from latesums.checks import are_whole, is_line, is_named, is_width
from latesums.errors import InvalidAsk, InvalidItem, InvalidList, InvalidNumber, InvalidPlan, Unfit
from latesums.forms import fits_form
from latesums.lots import basis_of, check_wish
from latesums.tables import change_table, empty_numbers, join_tables, lift_forms
from latesums.vectors import vector_of


class Plan:
    """Numbers of stretches: how they begin, join and change, and how the asks are told from them."""

    def __init__(self, width, empty, lift, joins, changes, asks):
        if not is_width(width):
            raise InvalidNumber(width)
        if not isinstance(empty, list) or not are_whole(empty):
            raise InvalidList(empty)
        if not is_lift(lift, width, len(empty)):
            raise InvalidList(lift)
        if not are_joins(joins, len(empty)):
            raise InvalidList(joins)
        check_matrices(changes, len(empty))
        check_factors(asks, len(empty))
        self.width = width
        self._empty = list(empty)
        self._lift = list(lift)
        self._joins = copied_lists(joins)
        self._changes = [(name, copied_lists(matrix)) for name, matrix in changes]
        self._asks = [(name, list(factors)) for name, factors in asks]

    def empty(self):
        """The numbers of the row without cells."""
        return list(self._empty)

    def lift(self):
        """The forms whose worths are the numbers of a row of one cell."""
        return list(self._lift)

    def joins(self):
        """For each number the list of the products by which it comes of the numbers of two rows."""
        return copied_lists(self._joins)

    def changes(self):
        """The list of the names of changes and of their matrices."""
        return [(name, copied_lists(matrix)) for name, matrix in self._changes]

    def asks(self):
        """The list of the names of asks and of the factors by which they are told."""
        return [(name, list(factors)) for name, factors in self._asks]

    def __len__(self):
        return len(self._empty)

    def __eq__(self, other):
        return (isinstance(other, Plan) and self.width == other.width and self._empty == other._empty
                and self._lift == other._lift and self._joins == other._joins
                and self._changes == other._changes and self._asks == other._asks)


def least_plan(wish):
    """A plan with as few numbers as can be from which every ask of a wish is told rightly."""
    check_wish(wish)
    basis = basis_of(wish)
    changes = [(name, change_table(basis, change)) for name, change in wish.changes()]
    asks = [(name, basis.told(vector_of(form))) for name, form in wish.asks()]
    return Plan(wish.width, empty_numbers(basis), lift_forms(basis, wish.width), join_tables(basis), changes, asks)


def copied_lists(lines):
    """A new list of new lists of the same items."""
    return [list(line) for line in lines]


def is_lift(value, width, many):
    """Whether a value is a list of so many forms of a width."""
    if not isinstance(value, list) or len(value) != many:
        return False
    for form in value:
        if not fits_form(form, width):
            return False
    return True


def are_joins(value, many):
    """Whether a value is a list of so many lists of products of two of so many numbers."""
    if not isinstance(value, list) or len(value) != many:
        return False
    for line in value:
        if not is_join(line, many):
            return False
    return True


def is_join(value, many):
    """Whether a value is a list of products, each with a factor, of two of so many numbers."""
    if not isinstance(value, list):
        return False
    for item in value:
        if not isinstance(item, tuple) or len(item) != 3 or not are_whole(item):
            return False
        if not 0 <= item[0] < many or not 0 <= item[1] < many:
            return False
    return True


def is_square(value, many):
    """Whether a value is a list of so many lists of so many whole numbers."""
    if not isinstance(value, list) or len(value) != many:
        return False
    for line in value:
        if not is_line(line, many):
            return False
    return True


def check_matrices(changes, many):
    """Raises an error unless changes are a list of unlike names with matrices for so many numbers."""
    if not isinstance(changes, list):
        raise InvalidList(changes)
    taken = {}
    for item in changes:
        if not is_named(item, taken) or not is_square(item[1], many):
            raise InvalidItem(item)
        taken[item[0]] = True


def check_factors(asks, many):
    """Raises an error unless asks are a list of unlike names with factors of so many numbers."""
    if not isinstance(asks, list):
        raise InvalidList(asks)
    taken = {}
    for item in asks:
        if not is_named(item, taken) or not is_line(item[1], many):
            raise InvalidAsk(item)
        taken[item[0]] = True


def check_fit(plan, wish):
    """Raises an error unless a value is a plan, another one a wish, and the plan fits it."""
    if not isinstance(plan, Plan):
        raise InvalidPlan(plan)
    check_wish(wish)
    missing = missing_names(plan, wish)
    if missing:
        raise Unfit(missing[0])


def missing_names(plan, wish):
    """The names of a wish that a plan misses, as the wish lists them; only None for a plan of another width."""
    if plan.width != wish.width:
        return [None]
    asks, changes = dict(plan.asks()), dict(plan.changes())
    missing = [name for name, _ in wish.asks() if name not in asks]
    return missing + [name for name, _ in wish.changes() if name not in changes]
