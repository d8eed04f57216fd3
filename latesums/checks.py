"""What counts as a whole number, a width, a cell, a row and a name: shared by the modules of the package."""


def is_whole(value):
    """Whether a value is a whole number; Booleans are none."""
    return isinstance(value, int) and not isinstance(value, bool)


def is_place(value, low, high):
    """Whether a value is a whole number from one to another one."""
    return is_whole(value) and low <= value <= high


def are_whole(values):
    """Whether all items of a list or tuple are whole numbers."""
    for value in values:
        if not is_whole(value):
            return False
    return True


def is_width(value):
    """Whether a value is a width that cells can have."""
    return is_whole(value) and 1 <= value <= 2


def fits_cell(value, width):
    """Whether a value is a cell of a width that is known to be one."""
    return isinstance(value, tuple) and len(value) == width and are_whole(value)


def fits_row(value, width):
    """Whether a value is a row of cells of a width that is known to be one."""
    if not isinstance(value, list):
        return False
    for cell in value:
        if not fits_cell(cell, width):
            return False
    return True


def is_line(value, many):
    """Whether a value is a list of so many whole numbers."""
    return isinstance(value, list) and len(value) == many and are_whole(value)


def is_name(value):
    """Whether a value is a string of 1 to 8 small letters."""
    if not isinstance(value, str) or not 1 <= len(value) <= 8:
        return False
    for sign in value:
        if not "a" <= sign <= "z":
            return False
    return True


def is_named(value, taken):
    """Whether a value is a tuple of a name that is not taken yet and of one thing more."""
    return isinstance(value, tuple) and len(value) == 2 and is_name(value[0]) and value[0] not in taken
