"""Tales: what a story is, and its row and numbers, told step by step without going deep."""

from latesums.checks import fits_cell

EMPTY = ("empty",)


def is_tale(story, wish):
    """Whether a value is a story with cells of a wish."""
    names = dict(wish.changes())
    left = [story]
    while left:
        step = left.pop()
        parts = parts_of(step, names, wish.width)
        if parts is None:
            return False
        left.extend(parts)
    return True


def parts_of(step, names, width):
    """The list of what has to be the stories within one step, or None if this is no step with cells."""
    if not isinstance(step, tuple) or not 2 <= len(step) <= 3 or not isinstance(step[0], str):
        return None
    if len(step) == 2:
        return [] if step[0] == "cell" and fits_cell(step[1], width) else None
    if step[0] == "join":
        return [step[1], step[2]]
    if step[0] == "change" and isinstance(step[1], str) and step[1] in names:
        return [step[2]]
    return None


def in_turn(story):
    """The steps of a story with cells, each behind those within it, the first part of a join ahead of the second."""
    left, steps = [story], []
    while left:
        step = left.pop()
        steps.append(step)
        if step[0] == "join":
            left.append(step[1])
            left.append(step[2])
        elif step[0] == "change":
            left.append(step[2])
    return steps[::-1]


def row_by(wish, story):
    """The row of a story with cells."""
    changes = dict(wish.changes())
    rows = []
    for step in in_turn(story):
        if step[0] == "cell":
            rows.append([step[1]])
        elif step[0] == "change":
            rows.append(changes[step[1]].row(rows.pop()))
        else:
            behind = rows.pop()
            rows.append(rows.pop() + behind)
    return rows[0]


def numbers_by(keeper, story):
    """The numbers of a story with cells."""
    known = []
    for step in in_turn(story):
        if step[0] == "cell":
            known.append(keeper.of_cell(step[1], None))
        elif step[0] == "change":
            known.append(keeper.changed(step[1], known.pop(), None))
        else:
            behind = known.pop()
            known.append(keeper.joined(known.pop(), behind, None))
    return known[0]
