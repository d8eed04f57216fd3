"""Vectors: forms as dicts from words, which are their tuples of letters, to factors other than 0."""

from latesums.forms import Form, letter_image, letter_worth


def vector_of(form):
    """The vector of a form."""
    return {word: factor for factor, word in form.terms()}


def form_of(vector, width):
    """The form of this width that has a vector."""
    return Form(width, [(factor, word) for word, factor in vector.items()])


def word_place(word):
    """What words are ordered by: the number of their letters, then the letters."""
    return (len(word), word)


def cleared(vector, modulus):
    """A vector without the factors that are 0, each reduced by the modulus unless that is None."""
    if modulus is not None:
        vector = {word: factor % modulus for word, factor in vector.items()}
    return {word: factor for word, factor in vector.items() if factor != 0}


def take_off(vector, many, other):
    """Takes a multiple of another vector off a vector, which may then hold factors that are 0."""
    for word, factor in other.items():
        vector[word] = vector.get(word, 0) - many * factor


def cut_vectors(vector):
    """The vectors that are left of a vector behind each first letter, and ahead of each last one."""
    # The cells that are put in ahead make of a form the form itself and all of these, each times the worth of its
    # letter at the cell. Worths of unlike letters are independent, so these are just what comes in by such cells.
    return list(tails_of(vector).values()) + list(heads_of(vector).values())


def tails_of(vector):
    """For each first letter the vector that is left behind it."""
    behind = {word[0]: {} for word in vector if word}
    for word, factor in vector.items():
        if word:
            behind[word[0]][word[1:]] = factor
    return behind


def heads_of(vector):
    """For each last letter the vector that is left ahead of it."""
    ahead = {word[-1]: {} for word in vector if word}
    for word, factor in vector.items():
        if word:
            ahead[word[-1]][word[:-1]] = factor
    return ahead


class Mover:
    """What one change makes of vectors, exactly or reduced by a modulus."""

    def __init__(self, change, modulus):
        self._matrix = change.matrix()
        self._offsets = change.offsets()
        self._turns = change.turns
        self._modulus = modulus
        self._images = {}

    def image(self, letter):
        """The vector of letters that a letter becomes."""
        if letter not in self._images:
            image = letter_image(letter, self._matrix, self._offsets)
            self._images[letter] = cleared(image, self._modulus)
        return self._images[letter]

    def moved(self, vector):
        """The vector of the form that has on every row the worth of the vector's form on the changed row."""
        if self._turns:
            vector = {word[::-1]: factor for word, factor in vector.items()}
        longest = max([len(word) for word in vector], default=0)
        for at in range(longest):
            vector = self.moved_at(vector, at)
        return vector

    def moved_at(self, vector, at):
        """The vector in which the letters at one place of the words have become their images."""
        sums = {}
        for word, factor in vector.items():
            if len(word) <= at:
                sums[word] = factor
                continue
            head, tail = word[:at], word[at + 1:]
            for letter, times in self.image(word[at]).items():
                new = head + (letter,) + tail
                sums[new] = sums.get(new, 0) + factor * times
        return cleared(sums, self._modulus)


def word_worths(words, row):
    """For each of the words, the keys of a dict, its worth on a row."""
    letters = {letter: True for word in words for letter in word}
    table = {letter: [letter_worth(letter, cell) for cell in row] for letter in letters}
    known, last, sums = {(): 1}, (), [[1] * len(row)]
    # Words that begin alike stand together when they are sorted, and share the sums of what they begin with.
    for word in sorted(list(words)):
        if word:
            shared = shared_start(word[:-1], last)
            sums = sums[:shared + 1]
            for letter in word[shared:-1]:
                sums.append(sums_ahead(sums[-1], table[letter]))
            known[word] = sum([above * worth for above, worth in zip(sums[-1], table[word[-1]])])
            last = word[:-1]
    return known


def shared_start(one, other):
    """How many letters two words have in common at their beginning."""
    many = 0
    while many < min(len(one), len(other)) and one[many] == other[many]:
        many += 1
    return many


def sums_ahead(sums, worths):
    """For each cell the sum, over the cells ahead of it, of the products of two numbers at these."""
    found, total = [], 0
    for above, worth in zip(sums, worths):
        found.append(total)
        total = total + above * worth
    return found
