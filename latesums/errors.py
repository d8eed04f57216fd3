"""The errors that the package raises."""


class SumsError(ValueError):
    """Any error of this package."""


class InvalidNumber(SumsError):
    """A number that does not fit; `value` is the argument."""

    def __init__(self, value=None):
        self.value = value


class InvalidCell(SumsError):
    """An argument that has to be a cell and is none; `value` is the argument."""

    def __init__(self, value=None):
        self.value = value


class InvalidRow(SumsError):
    """An argument that has to be a row and is none; `value` is the argument."""

    def __init__(self, value=None):
        self.value = value


class InvalidTerm(SumsError):
    """An item of a list of terms that is no term; `value` is the item."""

    def __init__(self, value=None):
        self.value = value


class InvalidForm(SumsError):
    """An argument or item that has to be a form and is none, or does not fit; `value` is it."""

    def __init__(self, value=None):
        self.value = value


class InvalidList(SumsError):
    """An argument that has to be a list and is none, or does not fit as one; `value` is the argument."""

    def __init__(self, value=None):
        self.value = value


class InvalidChange(SumsError):
    """An argument that has to be a change and is none, or does not fit; `value` is the argument."""

    def __init__(self, value=None):
        self.value = value


class InvalidAsk(SumsError):
    """An item of a list of asks that is no ask; `value` is the item."""

    def __init__(self, value=None):
        self.value = value


class InvalidItem(SumsError):
    """An item of a list of changes or steps that is none; `value` is the item."""

    def __init__(self, value=None):
        self.value = value


class InvalidWish(SumsError):
    """An argument that has to be a wish and is none; `value` is the argument."""

    def __init__(self, value=None):
        self.value = value


class InvalidPlan(SumsError):
    """An argument that has to be a plan and is none; `value` is the argument."""

    def __init__(self, value=None):
        self.value = value


class InvalidStory(SumsError):
    """An argument that has to be a story and is none; `value` is the argument."""

    def __init__(self, value=None):
        self.value = value


class Unfit(SumsError):
    """A plan does not fit a wish; `name` is the name that is missing, `None` for another width."""

    def __init__(self, name=None):
        self.name = name


class InvalidTree(SumsError):
    """An argument that has to be a tree and is none, or does not fit; `value` is the argument."""

    def __init__(self, value=None):
        self.value = value


class InvalidText(SumsError):
    """An argument that has to be the text of a form and is none; `value` is the argument."""

    def __init__(self, value=None):
        self.value = value


class InvalidName(SumsError):
    """An argument that has to be a name and is none; `name` is the argument."""

    def __init__(self, name=None):
        self.name = name


class TakenName(SumsError):
    """A name by which something is kept already; `name` is the argument."""

    def __init__(self, name=None):
        self.name = name


class UnknownName(SumsError):
    """An argument that is the name of nothing that is known; `name` is the argument."""

    def __init__(self, name=None):
        self.name = name


class NothingToUndo(SumsError):
    """There is no deed or step left to undo."""
