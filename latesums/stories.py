"""Stories: how rows are made step by step, whether a plan tells all of them rightly, and papers that show it."""

from latesums.bounds import fault_bits, minor_bits
from latesums.echelons import Echelon
from latesums.errors import InvalidStory
from latesums.hunts import Hunt
from latesums.keepers import Keeper, reduced, short_line
from latesums.lots import check_wish
from latesums.moduli import FIRST_BITS, LONG_BITS, modulus_of, prime_from
from latesums.plans import check_fit, least_plan
from latesums.proofs import is_proved
from latesums.tales import EMPTY, is_tale, numbers_by, row_by


def row_of(wish, story):
    """The row of a story."""
    check_wish(wish)
    check_story(wish, story)
    return [] if story == EMPTY else row_by(wish, story)


def numbers_of(plan, wish, story):
    """The numbers of a plan for a story."""
    check_fit(plan, wish)
    check_story(wish, story)
    return plan.empty() if story == EMPTY else numbers_by(Keeper([plan], wish), story)


def is_right(plan, wish):
    """Whether a plan tells each ask rightly for all stories of a wish."""
    check_fit(plan, wish)
    return empty_fault(plan, wish) is None and judged(plan, wish).wrong is None


def wrong_story(plan, wish):
    """A story with the fewest steps at which a plan is wrong and the name of an ask, or None if it is right."""
    check_fit(plan, wish)
    name = empty_fault(plan, wish)
    if name is not None:
        return EMPTY, name
    hunt = judged(plan, wish)
    return None if hunt.wrong is None else least_wrong(plan, wish, hunt)


def is_paper(plan, wish, stories):
    """Whether a value is a list of stories that shows that a plan is right."""
    check_fit(plan, wish)
    if not isinstance(stories, list):
        return False
    for story in stories:
        if not is_tale(story, wish):
            return False
    if empty_fault(plan, wish) is not None:
        return False
    hunt = judged(plan, wish)
    if hunt.wrong is not None:
        return False
    # The list covers what it has to just if its numbers make those of all stories. With a right plan the worths of
    # the lot are sums of multiples of the numbers, so that the numbers alone are enough.
    keeper = Keeper([plan], wish)
    return has_rank([numbers_by(keeper, story) for story in stories], len(hunt.found))


def paper(plan, wish):
    """A list of stories that shows that a plan is right, none of them covered by the others; None if it is not."""
    check_fit(plan, wish)
    if empty_fault(plan, wish) is not None:
        return None
    hunt = judged(plan, wish)
    return [story for _, story, _, _ in hunt.found] if hunt.wrong is None else None


def check_story(wish, story):
    """Raises an error unless a value is a story of a wish."""
    if not isinstance(story, tuple) or story != EMPTY and not is_tale(story, wish):
        raise InvalidStory(story)


def empty_fault(plan, wish):
    """The name of the first ask that a plan tells wrongly for the row without cells, or None."""
    told = dict(plan.asks())
    for name, form in wish.asks():
        if sum([factor * number for factor, number in zip(told[name], plan.empty())]) != form.at([]):
            return name
    return None


def sides(plan, wish):
    """The keeper of a plan's numbers beside the least ones, which are right, and where their asks are unlike."""
    least = least_plan(wish)
    told = dict(plan.asks())
    faults = [(name, short_line(told[name] + [-factor for factor in factors], 0)) for name, factors in least.asks()]
    return Keeper([plan, least], wish), faults


def judged(plan, wish):
    """A hunt that has met a wrong story, or whose result holds for the numbers themselves."""
    keeper, faults = sides(plan, wish)
    bits = FIRST_BITS
    while True:
        hunt = Hunt(keeper, faults, modulus_of(bits)).run(wish.width, None)
        if not hunt.echelon.broken and (hunt.wrong is not None or is_proved(hunt)):
            return hunt
        bits = prime_from(2 * bits)


def least_wrong(plan, wish, hunt):
    """The story with the fewest steps that is wrong, and the name of an ask, behind a hunt that met a wrong one."""
    # A fault that is 0 modulo several numbers is 0 if it is less than their product. As long as a fault in fewer
    # steps could be greater, there is one more hunt for it, modulo one more number.
    steps, story, name = hunt.wrong
    bits = hunt.modulus.bit_length()
    covered = bits - 1
    while covered < fault_bits(plan, wish, hunt.keeper, steps - 1):
        bits = prime_from(max(bits + 1, LONG_BITS))
        again = Hunt(hunt.keeper, hunt.faults, modulus_of(bits)).run(wish.width, steps)
        if not again.echelon.broken:
            covered = covered + bits - 1
            if again.wrong is not None:
                steps, story, name = again.wrong
    return story, name


def has_rank(lists, many):
    """Whether so many of some lists of numbers are independent."""
    if len(lists) < many:
        return False
    bits, covered, needed = FIRST_BITS, 0, minor_bits(lists, many)
    while covered <= needed:
        echelon = Echelon(max([len(numbers) for numbers in lists], default=0), modulus_of(bits))
        for numbers in lists:
            echelon.grow(reduced(numbers, echelon.modulus))
        if len(echelon.pivots) >= many:
            return True
        if not echelon.broken:
            covered = covered + bits - 1
        bits = prime_from(max(bits + 1, LONG_BITS))
    return False
