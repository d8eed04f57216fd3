"""The lot of a wish: all forms that have to be known of a row so that its asks can be told later, whatever comes."""

from latesums.bases import closed_basis
from latesums.checks import fits_row
from latesums.errors import InvalidForm, InvalidList, InvalidRow, InvalidWish
from latesums.forms import Form, fits_form
from latesums.vectors import form_of, vector_of, word_worths
from latesums.wishes import Wish


def rank(wish):
    """The greatest number of independent forms in the lot."""
    check_wish(wish)
    return len(basis_of(wish).words)


def in_lot(wish, form):
    """Whether a form is in the lot."""
    check_wish(wish)
    if not fits_form(form, wish.width):
        raise InvalidForm(form)
    return basis_of(wish).told(vector_of(form)) is not None


def lot(wish):
    """A list of independent forms of which each form in the lot is a whole combination."""
    check_wish(wish)
    return [form_of(vector, wish.width) for vector in basis_of(wish).vectors]


def worths(forms, row):
    """The list of the worths of forms on a row."""
    if not isinstance(forms, list):
        raise InvalidList(forms)
    for form in forms:
        if not isinstance(form, Form) or form.width != forms[0].width:
            raise InvalidForm(form)
    if not fits_row(row, forms[0].width if forms else 1):
        raise InvalidRow(row)
    vectors = [vector_of(form) for form in forms]
    # Many forms share few words: each word is summed over the row once.
    known = word_worths({word: True for vector in vectors for word in vector}, row)
    return [sum([factor * known[word] for word, factor in vector.items()]) for vector in vectors]


def check_wish(wish):
    """Raises an error unless a value is a wish."""
    if not isinstance(wish, Wish):
        raise InvalidWish(wish)


def basis_of(wish):
    """The basis of the lot of a wish, kept by the wish."""
    if wish.basis is None:
        starts = [vector_of(form) for _, form in wish.asks()]
        wish.basis = closed_basis(starts, [change for _, change in wish.changes()])
    return wish.basis
