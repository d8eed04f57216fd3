"""Trees the plain way: cut, handed down, changed and joined step by step, as section 9 of the document words it."""

from tests.samples import change_by_hand, worth_by_hand


class Grove:
    """Trees of one plan and one wish: None is no tree; a tree is a tuple.

    `("none", numbers)` is empty, `("cell", numbers, cell)` is of one cell, and `("two", numbers, names, first, second)`
    has two parts and names that wait.
    """

    def __init__(self, plan, wish):
        self.plan, self.wish = plan, wish
        self.changes, self.matrices, self.factors = dict(wish.changes()), dict(plan.changes()), dict(plan.asks())

    def empty(self):
        return "none", self.plan.empty()

    def cell(self, cell):
        return "cell", [worth_by_hand(form.terms(), [cell]) for form in self.plan.lift()], cell

    def two(self, first, second):
        one, other = first[1], second[1]
        numbers = [sum(factor * one[i] * other[j] for i, j, factor in line) for line in self.plan.joins()]
        return "two", numbers, [], first, second

    def made(self, row):
        if not row:
            return self.empty()
        if len(row) == 1:
            return self.cell(row[0])
        return self.two(self.made(row[:len(row) // 2]), self.made(row[len(row) // 2:]))

    def join(self, one, other):
        if one[0] == "none":
            return other
        return one if other[0] == "none" else self.two(one, other)

    def change(self, tree, name):
        numbers = [sum(entry * number for entry, number in zip(line, tree[1])) for line in self.matrices[name]]
        if tree[0] == "none":
            return "none", numbers
        if tree[0] == "cell":
            change = self.changes[name]
            return "cell", numbers, change_by_hand(change.matrix(), change.offsets(), change.turns, [tree[2]])[0]
        return "two", numbers, tree[2] + [name], tree[3], tree[4]

    def hand_down(self, tree):
        first, second = tree[3], tree[4]
        for name in tree[2]:
            first, second = self.change(first, name), self.change(second, name)
            if self.changes[name].turns:
                first, second = second, first
        return "two", tree[1], [], first, second

    def size(self, tree):
        return {"none": 0, "cell": 1}[tree[0]] if tree[0] != "two" else self.size(tree[3]) + self.size(tree[4])

    def cut(self, tree, at):
        if at == 0:
            return self.empty(), tree
        if at == self.size(tree):
            return tree, self.empty()
        tree = self.hand_down(tree)
        many = self.size(tree[3])
        if many >= at:
            ahead, behind = self.cut(tree[3], at)
            return ahead, self.join(behind, tree[4])
        ahead, behind = self.cut(tree[4], at - many)
        return self.join(tree[3], ahead), behind

    def cut_twice(self, tree, low, high):
        one, last = self.cut(tree, self.size(tree) if high is None else high)
        first, middle = self.cut(one, low)
        return first, middle, last

    def changed(self, tree, name, low=0, high=None):
        first, middle, last = self.cut_twice(tree, low, high)
        return self.join(self.join(first, self.change(middle, name)), last)

    def part(self, tree, low=0, high=None):
        return self.cut_twice(tree, low, high)[1]

    def row(self, tree):
        if tree[0] != "two":
            return list(tree[2:])
        tree = self.hand_down(tree)
        return self.row(tree[3]) + self.row(tree[4])

    def shape(self, tree):
        return {"none": "", "cell": "."}[tree[0]] if tree[0] != "two" else f"({self.shape(tree[3])}{self.shape(tree[4])})"

    def waiting(self, tree):
        return tree[2] if tree[0] == "two" else []

    def told(self, tree, name, low=0, high=None):
        return sum(factor * number for factor, number in zip(self.factors[name], self.part(tree, low, high)[1]))

    def put(self, tree, at, cell):
        one, other = self.cut(tree, at)
        return self.join(self.join(one, self.cell(cell)), other)

    def drop(self, tree, low, high):
        first, _, last = self.cut_twice(tree, low, high)
        return self.join(first, last)

    def move(self, tree, low, high, at):
        first, middle, last = self.cut_twice(tree, low, high)
        one, other = self.cut(self.join(first, last), at)
        return self.join(self.join(one, middle), other)
