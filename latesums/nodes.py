"""Nodes: what trees of stretches are made of. A node never changes."""

from latesums.tales import EMPTY


class Node:
    """A tree: its cells as they are behind all changes, its numbers, a story of them, and its text.

    `halves` are its two parts as they stand, or None; `late` are the names of the changes that wait for them.
    """

    def __init__(self, cells, counts, tale, outline, halves, late):
        self.cells = cells
        self.counts = counts
        self.tale = tale
        self.outline = outline
        self.halves = halves
        self.late = late


def empty_node(keeper):
    """The empty tree."""
    return Node([], keeper.starts, EMPTY, "", None, [])


def row_node(keeper, row):
    """The tree of a row."""
    if not row:
        return empty_node(keeper)
    if len(row) == 1:
        return Node(list(row), keeper.of_cell(row[0], None), ("cell", row[0]), ".", None, [])
    middle = len(row) // 2
    return pair_node(keeper, row_node(keeper, row[:middle]), row_node(keeper, row[middle:]))


def pair_node(keeper, one, other):
    """The tree with two parts that are not empty."""
    counts = keeper.joined(one.counts, other.counts, None)
    outline = f"({one.outline}{other.outline})"
    return Node(one.cells + other.cells, counts, ("join", one.tale, other.tale), outline, (one, other), [])


def joined_nodes(keeper, one, other):
    """Two trees joined."""
    if not one.cells:
        return other
    return pair_node(keeper, one, other) if other.cells else one


def changed_node(keeper, node, name):
    """A tree that is not empty, changed: its parts stay as they stand, and the change waits for them."""
    cells, counts = keeper.moves[name].row(node.cells), keeper.changed(name, node.counts, None)
    late = node.late + [name] if node.halves else []
    return Node(cells, counts, ("change", name, node.tale), node.outline, node.halves, late)


def handed_down(keeper, node):
    """The two parts of a tree behind all changes that wait for them."""
    one, other = node.halves
    for name in node.late:
        one, other = changed_node(keeper, one, name), changed_node(keeper, other, name)
        if keeper.moves[name].turns:
            one, other = other, one
    return one, other


def cut_node(keeper, node, at):
    """The two trees into which a tree is cut ahead of a place."""
    beside = []
    while 0 < at < len(node.cells):
        one, other = handed_down(keeper, node)
        if at <= len(one.cells):
            beside.append((None, other))
            node = one
        else:
            beside.append((one, None))
            node, at = other, at - len(one.cells)
    one, other = (empty_node(keeper), node) if at == 0 else (node, empty_node(keeper))
    for ahead, behind in beside[::-1]:
        if ahead is None:
            other = joined_nodes(keeper, other, behind)
        else:
            one = joined_nodes(keeper, ahead, one)
    return one, other
