"""Live trees: led deed by deed from one tree to the next, with what was kept on the way."""

from latesums.checks import fits_cell, is_name, is_place
from latesums.errors import (InvalidCell, InvalidName, InvalidNumber, InvalidTree, NothingToUndo, TakenName,
                             UnknownName)
from latesums.trees import Tree, cut_tree


class Live:
    """A tree that can be changed, with its deeds, which can be undone, and with trees kept by names."""

    def __init__(self, tree):
        if not isinstance(tree, Tree):
            raise InvalidTree(tree)
        self._now = tree
        self._kept = {}
        # Each deed with the tree from which it led.
        self._deeds = []

    def tree(self):
        """The tree at which it stands."""
        return self._now

    def __len__(self):
        return len(self._now)

    def told(self, name, low=0, high=None):
        """What the tree tells for an ask of a stretch."""
        return self._now.told(name, low, high)

    def change(self, name, low=0, high=None):
        """Changes a stretch by a change of the wish."""
        tree = self._now.changed(name, low, high)
        self._lead(("change", name, low, len(self._now) if high is None else high), tree)

    def put(self, at, cell):
        """Puts a cell in ahead of a place."""
        if not is_place(at, 0, len(self._now)):
            raise InvalidNumber(at)
        if not fits_cell(cell, self._now.wish.width):
            raise InvalidCell(cell)
        one, other = cut_tree(self._now, at)
        self._lead(("put", at, cell), one + Tree(self._now.plan, self._now.wish, [cell]) + other)

    def drop(self, low, high):
        """Takes a stretch out."""
        left, _ = self._taken(low, high)
        self._lead(("drop", low, high), left)

    def move(self, low, high, at):
        """Takes a stretch out and puts it in ahead of a place of what is left."""
        left, taken = self._taken(low, high)
        if not is_place(at, 0, len(left)):
            raise InvalidNumber(at)
        one, other = cut_tree(left, at)
        self._lead(("move", low, high, at), one + taken + other)

    def keep(self, name):
        """Keeps the tree at which it stands by a name."""
        if not is_name(name):
            raise InvalidName(name)
        if name in self._kept:
            raise TakenName(name)
        self._kept[name] = self._now

    def kept(self):
        """The names, in order, by which trees are kept."""
        return sorted(list(self._kept))

    def edition(self, name):
        """The tree that is kept by a name."""
        if not isinstance(name, str) or name not in self._kept:
            raise UnknownName(name)
        return self._kept[name]

    def go(self, name):
        """Leads back to a kept tree."""
        self._lead(("go", name), self.edition(name))

    def back(self):
        """Undoes the last deed that has not been undone."""
        if not self._deeds:
            raise NothingToUndo()
        self._now = self._deeds.pop()[1]

    def log(self):
        """The deeds that have not been undone, from the first to the last."""
        return [deed for deed, _ in self._deeds]

    def copy(self):
        """An independent live tree that stands at the same tree, with the same deeds and kept trees."""
        other = Live(self._now)
        other._kept = dict(self._kept)
        other._deeds = list(self._deeds)
        return other

    def __eq__(self, other):
        return (isinstance(other, Live) and self._now == other._now and self._kept == other._kept
                and self.log() == other.log())

    def _taken(self, low, high):
        """The tree that is left without a stretch, and that of the stretch."""
        many = len(self._now)
        if not is_place(low, 0, many):
            raise InvalidNumber(low)
        if not is_place(high, low, many):
            raise InvalidNumber(high)
        ahead, last = cut_tree(self._now, high)
        first, taken = cut_tree(ahead, low)
        return first + last, taken

    def _lead(self, deed, tree):
        """Leads on to a tree by a deed."""
        self._deeds.append((deed, self._now))
        self._now = tree
