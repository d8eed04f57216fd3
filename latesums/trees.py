"""Trees of stretches: numbers are asked of any stretch while changes wait in the tree."""

from latesums.checks import fits_row, is_place
from latesums.errors import InvalidNumber, InvalidRow, InvalidTree, UnknownName
from latesums.keepers import Keeper
from latesums.nodes import changed_node, cut_node, joined_nodes, row_node
from latesums.plans import check_fit


class Tree:
    """A tree over the cells of a row that keeps its numbers by a plan. Trees are values: nothing changes one."""

    def __init__(self, plan, wish, row):
        check_fit(plan, wish)
        if not fits_row(row, wish.width):
            raise InvalidRow(row)
        self.plan = plan
        self.wish = wish
        self._keeper = Keeper([plan], wish)
        self._node = row_node(self._keeper, row)

    def changed(self, name, low=0, high=None):
        """The tree in which a stretch is changed by a change of the wish."""
        if not isinstance(name, str) or name not in self._keeper.moves:
            raise UnknownName(name)
        first, middle, last = cut_twice(self, low, high)
        # The empty tree, changed, would be put aside at once by the joins.
        if middle.cells:
            middle = changed_node(self._keeper, middle, name)
        return made_tree(self, joined_nodes(self._keeper, joined_nodes(self._keeper, first, middle), last))

    def part(self, low=0, high=None):
        """The tree of a stretch."""
        return made_tree(self, cut_twice(self, low, high)[1])

    def row(self):
        """The cells as they are behind all changes, also those that still wait."""
        return list(self._node.cells)

    def numbers(self):
        """The numbers of the plan for the whole tree."""
        return list(self._node.counts)

    def waiting(self):
        """The names of the changes that wait for the two parts."""
        return list(self._node.late)

    def shape(self):
        """A text with a point for each cell, and with brackets around the texts of each two parts."""
        return self._node.outline

    def told(self, name, low=0, high=None):
        """What the plan tells for an ask of the wish from the numbers of a stretch."""
        if not isinstance(name, str) or name not in dict(self.wish.asks()):
            raise UnknownName(name)
        counts = cut_twice(self, low, high)[1].counts
        return sum([factor * number for factor, number in zip(dict(self.plan.asks())[name], counts)])

    def story(self):
        """A story of the wish with the numbers and the row of the tree."""
        return self._node.tale

    def __len__(self):
        return len(self._node.cells)

    def __add__(self, other):
        if not isinstance(other, Tree):
            return NotImplemented
        if other.plan != self.plan or other.wish != self.wish:
            raise InvalidTree(other)
        return made_tree(self, joined_nodes(self._keeper, self._node, other._node))

    def __eq__(self, other):
        return (isinstance(other, Tree) and self.plan == other.plan and self.wish == other.wish
                and self._node.cells == other._node.cells)


def made_tree(like, node):
    """The tree that is made of a node, with the plan and the wish of another tree."""
    tree = Tree(like.plan, like.wish, [])
    tree._node = node
    return tree


def cut_twice(tree, low, high):
    """The nodes ahead of a stretch, of it, and behind it; raises an error unless the places are those of a stretch."""
    many = len(tree)
    if not is_place(low, 0, many):
        raise InvalidNumber(low)
    if high is not None and not is_place(high, low, many):
        raise InvalidNumber(high)
    ahead, last = cut_node(tree._keeper, tree._node, many if high is None else high)
    first, middle = cut_node(tree._keeper, ahead, low)
    return first, middle, last


def cut_tree(tree, at):
    """The two trees into which a tree is cut ahead of a place that it has."""
    one, other = cut_node(tree._keeper, tree._node, at)
    return made_tree(tree, one), made_tree(tree, other)
