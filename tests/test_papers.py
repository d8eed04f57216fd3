"""[44]: papers that show that a plan is right."""

import random
import unittest

from latesums.errors import InvalidPlan, InvalidWish, Unfit
from latesums.forms import Form
from latesums.lots import lot
from latesums.plans import Plan, least_plan
from latesums.stories import is_paper, is_right, paper
from latesums.wishes import Wish
from tests.oracles import some_story, some_wish
from tests.samples import any_values, lists_within, raised, some_row
from tests.tellers import (all_numbers, mixed, parts_of_plan, rank_by_hand, slightly_other, with_more_numbers, wrong_asks)
from tests.test_stories import ADD, BAD, EMPTY, GOOD, MANY, ONE, STORY, TOTAL, TURN, WISH, good_tale, near_stories


class PaperCase(unittest.TestCase):
    def is_paper_by_hand(self, plan, wish, stories, chance):
        """What [44] says of a list of stories, with some of the cells."""
        if wrong_asks(plan, wish, EMPTY) or [story for story in stories if wrong_asks(plan, wish, story)]:
            return False
        forms = lot(wish)
        lists = [all_numbers(plan, forms, wish, story) for story in stories]
        cells = [(part,) for part in range(5)] if wish.width == 1 else [(one, two) for one in range(4) for two in range(4)]
        others = [("cell", cell) for cell in cells + some_row(chance, wish.width, 3)]
        others += [("join", one, other) for one in stories for other in stories]
        others += [("change", name, one) for name, _ in wish.changes() for one in stories]
        many = rank_by_hand(lists)
        return not [one for one in others if rank_by_hand(lists + [all_numbers(plan, forms, wish, one)]) > many]

    def check_paper(self, plan, wish):
        """Checks what is told of a paper of a right plan; returns it."""
        stories = paper(plan, wish)
        self.assertIs(type(stories), list)
        for story in stories:
            self.assertTrue(good_tale(story, wish))
        self.assertIs(is_paper(plan, wish, stories), True)
        lists = [all_numbers(plan, lot(wish), wish, story) for story in stories]
        self.assertEqual(rank_by_hand(lists), len(stories), "a story is covered by the others")
        return stories


class Papers(PaperCase):
    def test_section_7(self):
        self.assertIs(is_paper(GOOD, WISH, paper(GOOD, WISH)), True)
        self.assertEqual(len(self.check_paper(GOOD, WISH)), 3)
        self.assertIs(paper(BAD, WISH), None)

    def test_papers_by_hand(self):
        one, two = ("cell", (1,)), ("cell", (2,))
        pair = ("join", one, two)
        for stories, expected in (
                ([one, two, pair], True), ([pair, two, one], True), ([one, two, pair, pair], True), ([one, two], False),
                ([one, two, ("cell", (3,))], False), ([one, two, STORY], True), ([pair, STORY, one], True), ([], False),
                ([one, one, one], False), ([one, pair, ("join", one, one)], True), ([STORY, STORY, STORY], False),
                ([one, two, ("change", "add", one)], False), ([one, two, ("join", STORY, STORY), pair], True)):
            self.assertIs(is_paper(GOOD, WISH, stories), expected)
            self.assertIs(is_paper(BAD, WISH, stories), False)
            self.assertIs(self.is_paper_by_hand(GOOD, WISH, stories, random.Random(70)), expected)

    def test_no_papers_are_needed(self):
        for wish in (Wish(1, [], [("add", ADD)]), Wish(1, [("sum", Form(1, []))], [("add", ADD)])):
            for width, empty, lift, joins, matrix, factors in (
                    (1, [], [], [], [], []), (1, [0], [Form(1, [])], [[(0, 0, 4)]], [[5]], [6])):
                plan = Plan(width, empty, lift, joins, [("add", matrix)], [("sum", factors)])
                self.assertEqual(self.check_paper(plan, wish), [])
                self.assertIs(is_paper(plan, wish, [STORY, STORY]), True)
        plan = Plan(1, [3], [Form(1, [])], [[(0, 0, 4)]], [("add", [[5]])], [("sum", [6])])
        self.assertIs(paper(plan, Wish(1, [("sum", Form(1, []))], [("add", ADD)])), None)
        self.assertIs(is_paper(plan, Wish(1, [("sum", Form(1, []))], [("add", ADD)]), []), False)
        self.assertEqual(self.check_paper(plan, Wish(1, [], [])), [])

    def test_wrong_for_the_row_without_cells_alone(self):
        width, empty, lift, joins, changes, asks = parts_of_plan(GOOD)
        plan = Plan(1, [1, 0, 5], lift, joins, changes, asks)
        self.assertIs(paper(plan, WISH), None)
        self.assertIs(is_paper(plan, WISH, paper(GOOD, WISH)), False)

    def test_numbers_of_which_no_ask_is_told_have_to_be_covered(self):
        width, empty, lift, joins, changes, asks = parts_of_plan(GOOD)
        squares = Form(1, [(1, ((2,),))])
        plan = Plan(1, empty + [0], lift + [squares], joins + [[(0, 3, 1), (3, 0, 1)]],
                    [("add", [[1, 0, 0, 0], [0, 1, 0, 0], [0, 3, 1, 0], [0, 9, 6, 1]])], [("sum", [0, 0, 1, 0])])
        self.assertEqual(len(self.check_paper(plan, WISH)), 4)
        self.assertIs(is_paper(plan, WISH, paper(GOOD, WISH)), False)
        self.assertIs(is_paper(GOOD, WISH, paper(plan, WISH)), True)

    def test_papers_of_any_right_plans(self):
        chance = random.Random(71)
        for _ in range(60):
            wish = some_wish(chance, chance.choice([1, 4]))
            plan = with_more_numbers(chance, least_plan(wish), chance.choice([0, 0, 1, 2]))
            plan = mixed(chance, plan) if chance.random() < 0.5 else plan
            stories = self.check_paper(plan, wish)
            if len(stories) < 5:
                self.assertIs(self.is_paper_by_hand(plan, wish, stories, chance), True)
            for other in self.lists_near(chance, wish, stories):
                expected = rank_by_hand([all_numbers(plan, lot(wish), wish, story) for story in other]) == len(stories)
                self.assertIs(is_paper(plan, wish, other), expected)
                if len(other) < 5:
                    self.assertIs(self.is_paper_by_hand(plan, wish, other, chance), expected)

    def lists_near(self, chance, wish, stories):
        """Lists of stories: one is taken from some, exchanged or added."""
        any_stories = [some_story(chance, wish, chance.randint(1, 6), 3) for _ in range(4)]
        found = [stories[::-1], stories + stories[:1], stories + any_stories, any_stories[:1] + stories]
        for at in range(min(len(stories), 4)):
            found.append(stories[:at] + stories[at + 1:])
            found.append(stories[:at] + any_stories[at:at + 1] + stories[at + 1:])
            found.append(stories[:at] + stories[:1] + stories[at + 1:])
        return found

    def test_plans_of_any_kind_have_a_paper_just_if_they_are_right(self):
        chance = random.Random(72)
        kinds = {}
        for _ in range(100):
            wish = some_wish(chance, 3)
            plan = slightly_other(chance, least_plan(wish))
            right = is_right(plan, wish)
            kinds[right] = True
            if right:
                self.check_paper(plan, wish)
            else:
                self.assertIs(paper(plan, wish), None)
                some = [some_story(chance, wish, chance.randint(1, 5), 3) for _ in range(chance.randint(0, 8))]
                self.assertIs(is_paper(plan, wish, some), False)
                self.assertIs(is_paper(plan, wish, paper(least_plan(wish), wish)), False)
        self.assertEqual(set(kinds), {True, False})

    def test_determinants_that_are_multiples_of_great_numbers(self):
        # The stories are independent only by a number that is no remainder.
        for bits in (127, 521, 1009, 1013):
            for number in (2 ** bits - 1, (2 ** 127 - 1) * (2 ** 1009 - 1), 2 ** bits):
                cells = [("cell", (0,)), ("cell", (number,)), ("join", ("cell", (0,)), ("cell", (0,)))]
                self.assertIs(is_paper(GOOD, WISH, cells), True)
                self.assertIs(is_paper(GOOD, WISH, [("cell", (0,)), ("cell", (number,)), ("cell", (1,))]), False)

    def test_equal_calls_return_equal_results(self):
        chance = random.Random(73)
        for _ in range(20):
            wish = some_wish(chance)
            plan = least_plan(wish)
            self.assertEqual(paper(plan, wish), paper(least_plan(wish), Wish(wish.width, wish.asks(), wish.changes())))

    def test_returned_lists_belong_to_the_caller(self):
        stories = paper(GOOD, WISH)
        kept = list(stories)
        stories.clear()
        self.assertEqual(paper(GOOD, WISH), kept)
        self.assertEqual(len(lists_within([paper(GOOD, WISH)])), 2)

    def test_arguments_by_name(self):
        self.assertIs(is_paper(stories=paper(wish=WISH, plan=GOOD), wish=WISH, plan=GOOD), True)


class Values(PaperCase):
    def test_values_that_are_no_lists_of_stories_with_cells(self):
        stories = paper(GOOD, WISH)
        for value in any_values() + near_stories() + [EMPTY, [EMPTY], stories + [EMPTY], tuple(stories), {1: stories}]:
            self.assertIs(is_paper(GOOD, WISH, value), False)
            self.assertIs(is_paper(BAD, WISH, value), False)
        for value in near_stories() + any_values():
            if not good_tale(value, WISH):
                for at in range(4):
                    self.assertIs(is_paper(GOOD, WISH, stories[:at] + [value] + stories[at:]), False)

    def test_a_list_of_any_values_stays_as_it_was(self):
        stories = paper(GOOD, WISH) + [None, [1]]
        kept = list(stories)
        is_paper(GOOD, WISH, stories)
        self.assertEqual(stories, kept)

    def test_errors(self):
        for value in any_values():
            for stories in ([], None, paper(GOOD, WISH)):
                if type(value) is not Plan:
                    for wish in (WISH, None):
                        raised(self, InvalidPlan, lambda: is_paper(value, wish, stories), "value", value)
                        raised(self, InvalidPlan, lambda: paper(value, wish), "value", value)
                if type(value) is not Wish:
                    raised(self, InvalidWish, lambda: is_paper(GOOD, value, stories), "value", value)
                    raised(self, InvalidWish, lambda: paper(GOOD, value), "value", value)

    def test_plans_that_do_not_fit(self):
        for wish, name in ((Wish(2, [], []), None), (Wish(1, [("sum", TOTAL), ("b", MANY)], [("c", TURN)]), "b"),
                           (Wish(1, [("sum", TOTAL)], [("add", ADD), ("c", TURN)]), "c")):
            for stories in ([], None):
                raised(self, Unfit, lambda: is_paper(GOOD, wish, stories), "name", name)
            raised(self, Unfit, lambda: paper(GOOD, wish), "name", name)


if __name__ == "__main__":
    unittest.main()
