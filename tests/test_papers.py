"""Uses that end a case, papers, the cases that they leave, and what they show (points 2, 33, 34 and 35)."""

import itertools
import random
import unittest

from rotaward.pairs import Apart, Beside
from rotaward.papers import ends, is_paper, left
from rotaward.rules import Away, Hours, Least, Most, Rule, Want
from rotaward.terms import Terms, meets, more, only
from rotaward.turns import Nights, Off, Rest
from rotaward.wards import Ward

# The first hand can hold both posts, the second the first alone.
WARD = Ward(2, [0b11, 0b01], [(0b01, 8, 0), (0b10, 12, 1)])
ONE = Ward(1, [0], [(0, 8, 0)])
NO_HANDS = Ward(3, [], [(0, 8, 0)])
NO_POSTS = Ward(2, [1, 2], [])
GREAT = 10 ** 60

# Rule 2 has two lines, rule 4 none.
RULES = [Want(0, 1, 2), Away(1, 0b01), Hours(0, 8, 8), Most(0, 0b11, 1), Rule(), Want(1, 2, 1), Least(0, 0b11, 2)]
TERMS = Terms(WARD, RULES)


def tables(ward):
    rows = [itertools.product(ward.choices(hand), repeat=ward.days) for hand in range(len(ward.hands))]
    return [[list(row) for row in rota] for rota in itertools.product(*rows)]


def agrees(rota, pins):
    return all(rota[hand][day] == value for (hand, day), value in pins.items())


def agreeing(ward, pins):
    return [rota for rota in tables(ward) if agrees(rota, pins)]


def came_to(rota, parts):
    return sum(number for hand, day, post, number in parts if rota[hand][day] == post)


def expected_end(terms, pins, uses):
    lines = []
    for rule, line, times in uses:
        if rule not in range(len(terms.rules)) or times < 1:
            return False
        told = terms.rules[rule].lines(terms.ward)
        if line not in range(len(told)):
            return False
        lines.append((told[line], times))
    bound = sum(line[1] * times for line, times in lines)
    tops = [sum(came_to(rota, line[0]) * times for line, times in lines) for rota in agreeing(terms.ward, pins)]
    return max(tops) < bound


def expected_left(terms, paper):
    cases = [{}]
    for step in paper:
        if not cases:
            return None
        pins = cases.pop()
        if step[0] == "part":
            hand, day = step[1:]
            if hand not in range(len(terms.ward.hands)) or day not in range(terms.ward.days) or (hand, day) in pins:
                return None
            for value in sorted(terms.ward.choices(hand), reverse=True):
                cases.append({**pins, (hand, day): value})
        elif step[0] == "sum":
            if not expected_end(terms, pins, step[1]):
                return None
        else:
            return None
    return cases


def one_line(terms, pins):
    """The first line that ends the case alone, as uses; or None."""
    for rule, lines in enumerate(terms.sums):
        for line in range(len(lines)):
            if expected_end(terms, pins, ((rule, line, 1),)):
                return ((rule, line, 1),)
    return None


def long_paper(terms, order):
    """A paper that parts cells in this order until one line ends the case; whole tables are left out of it."""
    paper = []
    cases = [{}]
    while cases:
        pins = cases.pop()
        uses = one_line(terms, pins)
        free = [cell for cell in order if cell not in pins]
        if uses is not None:
            paper.append(("sum", uses))
        elif free:
            paper.append(("part",) + free[0])
            cases.extend({**pins, free[0]: value} for value in reversed(terms.ward.choices(free[0][0])))
        else:
            return paper
    return paper


class Ends(unittest.TestCase):
    def test_just_so_and_missed_by_one(self):
        # Two are wanted where two can be had, and three where two can.
        for many, told in ((2, False), (3, True), (4, True)):
            self.assertIs(ends(Terms(WARD, [Want(0, 1, many)]), {}, ((0, 0, 1),)), told)

    def test_under_pins(self):
        self.assertIs(ends(TERMS, {}, ((0, 0, 1),)), False)
        self.assertIs(ends(TERMS, {(1, 0): 0}, ((0, 0, 1),)), True)
        self.assertIs(ends(TERMS, {(1, 0): 1}, ((0, 0, 1),)), False)
        self.assertIs(ends(TERMS, {(1, 0): 1}, ((1, 0, 1),)), True)
        self.assertIs(ends(TERMS, {(0, 0): 2}, ((0, 0, 1),)), True)

    def test_lines_that_end_it_only_together(self):
        self.assertIs(ends(TERMS, {}, ((1, 0, 1),)), False)
        self.assertIs(ends(TERMS, {}, ((0, 0, 1), (1, 0, 1))), True)
        self.assertIs(ends(TERMS, {}, ((3, 0, 1), (6, 0, 1))), True)

    def test_the_second_line_of_a_rule(self):
        self.assertIs(ends(TERMS, {(0, 0): 2}, ((2, 1, 1),)), True)
        self.assertIs(ends(TERMS, {(0, 0): 2}, ((2, 0, 1),)), False)
        self.assertIs(ends(TERMS, {(0, 0): 0, (0, 1): 0}, ((2, 0, 1),)), True)
        self.assertIs(ends(TERMS, {(0, 0): 0, (0, 1): 0}, ((2, 1, 1),)), False)

    def test_how_many_times_counts(self):
        self.assertIs(ends(TERMS, {}, ((0, 0, 3), (1, 0, 3))), True)
        self.assertIs(ends(TERMS, {}, ((0, 0, 1), (1, 0, 3))), True)
        self.assertIs(ends(TERMS, {}, ((3, 0, 2), (6, 0, 1))), False)
        self.assertIs(ends(TERMS, {}, ((3, 0, GREAT), (6, 0, GREAT))), True)
        self.assertIs(ends(TERMS, {}, ((3, 0, 2 * GREAT - 1), (6, 0, GREAT))), True)
        self.assertIs(ends(TERMS, {}, ((3, 0, 2 * GREAT), (6, 0, GREAT))), False)

    def test_a_line_named_twice_counts_twice(self):
        terms = Terms(WARD, [Hours(0, 0, 8), Least(0, 0b11, 2)])
        self.assertIs(ends(terms, {}, ((0, 1, 1), (1, 0, 8))), True)
        self.assertIs(ends(terms, {}, ((1, 0, 4), (0, 1, 1), (1, 0, 4))), True)
        self.assertIs(ends(terms, {}, ((1, 0, 4), (0, 1, 1))), False)
        self.assertIs(ends(TERMS, {(1, 0): 0}, ((0, 0, 1), (0, 0, 1), (0, 0, 5))), True)
        self.assertIs(ends(TERMS, {}, ((3, 0, 1), (3, 0, 1), (6, 0, 1))), False)

    def test_taken_nought_times_or_less(self):
        pins = {(1, 0): 0}
        for times in (0, -1, -GREAT):
            self.assertIs(ends(TERMS, pins, ((0, 0, times),)), False)
            self.assertIs(ends(TERMS, pins, ((0, 0, 1), (1, 0, times))), False)
            self.assertIs(ends(TERMS, pins, ((1, 0, times), (0, 0, 1))), False)
            self.assertIs(ends(TERMS, pins, ((0, 0, 5), (0, 0, times))), False)

    def test_a_line_that_would_close_if_taken_below_nought(self):
        terms = Terms(WARD, [Most(0, 0b11, 1)])
        self.assertIs(ends(terms, {(0, 0): 0, (0, 1): 0}, ((0, 0, -1),)), False)

    def test_rules_and_lines_that_are_not_there(self):
        pins = {(1, 0): 0}
        self.assertIs(ends(TERMS, pins, ((0, 0, 1),)), True)
        for rule, line in ((7, 0), (-7, 0), (-1, 0), (GREAT, 0), (-GREAT, 0), (0, 1), (0, -1), (0, GREAT), (0, -GREAT),
                           (4, 0), (4, -1), (2, 2), (2, -2)):
            for uses in (((rule, line, 1),), ((0, 0, 1), (rule, line, 1)), ((rule, line, 1), (0, 0, 1))):
                self.assertIs(ends(TERMS, pins, uses), False, uses)

    def test_named_from_the_end_they_would_end_it(self):
        terms = Terms(WARD, [Want(0, 1, 3)])
        self.assertIs(ends(terms, {}, ((0, 0, 1),)), True)
        self.assertIs(ends(terms, {}, ((-1, 0, 1),)), False)
        self.assertIs(ends(terms, {}, ((0, -1, 1),)), False)
        self.assertIs(ends(terms, {}, ((1, 0, 1),)), False)

    def test_uses_of_nothing_end_no_case(self):
        for terms in (TERMS, Terms(WARD, []), Terms(NO_HANDS, []), Terms(NO_POSTS, []), Terms(WARD, [Want(0, 1, 9)])):
            self.assertIs(ends(terms, {}, ()), False)
        self.assertIs(ends(TERMS, {(0, 0): 1, (1, 0): 0, (0, 1): 0, (1, 1): 1}, ()), False)

    def test_no_rules(self):
        self.assertIs(ends(Terms(WARD, []), {}, ((0, 0, 1),)), False)

    def test_no_hands_and_no_posts(self):
        self.assertIs(ends(Terms(NO_HANDS, [Want(0, 1, 1)]), {}, ((0, 0, 1),)), True)
        self.assertIs(ends(Terms(NO_HANDS, [Want(0, 1, 0)]), {}, ((0, 0, 1),)), False)
        self.assertIs(ends(Terms(NO_POSTS, [Least(0, 0b11, 1)]), {}, ((0, 0, 1),)), True)
        self.assertIs(ends(Terms(NO_POSTS, [Least(0, 0b11, 0)]), {(0, 0): 0}, ((0, 0, 1),)), False)
        self.assertIs(ends(Terms(NO_POSTS, [Most(0, 0b11, -1)]), {(1, 1): 0}, ((0, 0, 1),)), True)

    def test_against_all_tables(self):
        chance = random.Random(33)
        seen = []
        options = [[None] + WARD.choices(hand) for hand in (0, 1) for day in (0, 1)]
        for told in itertools.product(*options):
            pins = {divmod(place, 2): value for place, value in enumerate(told) if value is not None}
            for number in range(6):
                uses = tuple(
                    (chance.choice((0, 0, 1, 2, 3, 5, 6, 4, 7, -1)), chance.choice((0, 0, 0, 0, 1)),
                     chance.choice((1, 1, 1, 1, 2, 8, 0)))
                    for use in range(chance.choice((1, 1, 2, 3)))
                )
                seen.append(ends(TERMS, pins, uses))
                self.assertIs(seen[-1], expected_end(TERMS, pins, uses), (pins, uses))
        self.assertGreater(seen.count(True), 50)
        self.assertGreater(seen.count(False), 50)

    def test_leaves_all_as_it_was(self):
        pins = {(1, 0): 0, (0, 1): 2}
        uses = ((0, 0, 1), (1, 0, 2))
        self.assertIs(ends(TERMS, pins, uses), True)
        self.assertEqual(pins, {(1, 0): 0, (0, 1): 2})
        self.assertEqual(uses, ((0, 0, 1), (1, 0, 2)))
        pins[(1, 0)] = 1
        self.assertIs(ends(TERMS, pins, ((0, 0, 1),)), False)


class Left(unittest.TestCase):
    def test_the_paper_without_steps(self):
        for terms in (TERMS, Terms(WARD, []), Terms(NO_HANDS, []), Terms(NO_HANDS, [Want(0, 1, 1)])):
            self.assertEqual(left(terms, []), [{}])
            self.assertIs(is_paper(terms, []), False)

    def test_a_cell_parted(self):
        self.assertEqual(left(TERMS, [("part", 0, 1)]), [{(0, 1): 2}, {(0, 1): 1}, {(0, 1): 0}])
        self.assertEqual(left(TERMS, [("part", 1, 0)]), [{(1, 0): 1}, {(1, 0): 0}])
        self.assertIs(is_paper(TERMS, [("part", 0, 1)]), False)

    def test_choices_that_are_not_all_posts(self):
        ward = Ward(1, [0b101], [(0b010, 1, 0), (0b001, 1, 0), (0b010, 1, 0), (0b100, 1, 0)])
        self.assertEqual(left(Terms(ward, []), [("part", 0, 0)]), [{(0, 0): 4}, {(0, 0): 2}, {(0, 0): 0}])

    def test_the_last_case_is_parted_next(self):
        self.assertEqual(left(TERMS, [("part", 1, 0), ("part", 1, 1), ("part", 0, 0)]), [
            {(1, 0): 1},
            {(1, 0): 0, (1, 1): 1},
            {(1, 0): 0, (1, 1): 0, (0, 0): 2},
            {(1, 0): 0, (1, 1): 0, (0, 0): 1},
            {(1, 0): 0, (1, 1): 0, (0, 0): 0},
        ])

    def test_a_case_ended(self):
        # Off, the second hand is lacking where two are wanted; at its post it breaks Away.
        paper = [("part", 1, 0), ("sum", ((0, 0, 1),))]
        self.assertEqual(left(TERMS, paper), [{(1, 0): 1}])
        self.assertEqual(left(TERMS, paper + [("part", 0, 1)]), [
            {(1, 0): 1, (0, 1): 2}, {(1, 0): 1, (0, 1): 1}, {(1, 0): 1, (0, 1): 0},
        ])
        self.assertEqual(left(TERMS, paper + [("sum", ((1, 0, 1),))]), [])
        self.assertIs(is_paper(TERMS, paper), False)
        self.assertIs(is_paper(TERMS, paper + [("sum", ((1, 0, 1),))]), True)

    def test_ended_at_once(self):
        self.assertEqual(left(TERMS, [("sum", ((0, 0, 1), (1, 0, 1)))]), [])
        self.assertIs(is_paper(TERMS, [("sum", ((0, 0, 1), (1, 0, 1)))]), True)

    def test_the_same_cell_in_two_cases(self):
        paper = [("part", 1, 0), ("part", 0, 0), ("sum", ((0, 0, 1),)), ("sum", ((0, 0, 1),)), ("sum", ((0, 0, 1),))]
        self.assertEqual(left(TERMS, paper + [("part", 0, 0)]), [
            {(1, 0): 1, (0, 0): 2}, {(1, 0): 1, (0, 0): 1}, {(1, 0): 1, (0, 0): 0},
        ])

    def test_all_cells_parted(self):
        paper = [("part", 0, 0), ("part", 1, 1), ("part", 1, 0), ("part", 0, 1)]
        told = left(TERMS, paper)
        self.assertEqual(len(told), 2 + 1 + 1 + 3)
        self.assertEqual(told[-1], {(0, 0): 0, (1, 1): 0, (1, 0): 0, (0, 1): 0})
        self.assertEqual(told[0], {(0, 0): 2})

    def test_no_hands(self):
        terms = Terms(NO_HANDS, [Want(2, 1, 1), Want(0, 1, 0)])
        self.assertEqual(left(terms, [("sum", ((0, 0, 1),))]), [])
        self.assertIs(is_paper(terms, [("sum", ((0, 0, 1),))]), True)
        self.assertIsNone(left(terms, [("sum", ((1, 0, 1),))]))
        self.assertIsNone(left(terms, [("part", 0, 0)]))

    def test_no_posts(self):
        terms = Terms(NO_POSTS, [Least(1, 0b10, 1)])
        self.assertEqual(left(terms, [("part", 0, 1), ("part", 1, 0)]), [{(0, 1): 0, (1, 0): 0}])
        self.assertEqual(left(terms, [("part", 0, 1), ("part", 1, 0), ("sum", ((0, 0, 1),))]), [])
        self.assertIsNone(left(terms, [("part", 0, 1), ("part", 0, 1)]))

    def test_no_hands_and_no_posts(self):
        terms = Terms(Ward(1, [], []), [])
        self.assertEqual(left(terms, []), [{}])
        self.assertIsNone(left(terms, [("part", 0, 0)]))
        self.assertIsNone(left(terms, [("sum", ())]))

    def test_a_hand_with_no_choice_but_off(self):
        terms = Terms(Ward(1, [0], [(1, 8, 0)]), [Want(0, 1, 1)])
        self.assertEqual(left(terms, [("part", 0, 0)]), [{(0, 0): 0}])
        self.assertEqual(left(terms, [("part", 0, 0), ("sum", ((0, 0, 1),))]), [])

    def test_a_long_month(self):
        ward = Ward(31, [0] * 8, [(0, 1, 0)] * 6)
        terms = Terms(ward, [Want(30, 6, 8), Most(7, 2 ** 31 - 1, 0)])
        paper = [("part", hand, day) for day in range(31) for hand in range(8)]
        told = left(terms, paper)
        self.assertEqual(len(told), 248 * 6 + 1)
        self.assertEqual(told[-1], {(hand, day): 0 for day in range(31) for hand in range(8)})
        self.assertEqual(told[0], {(0, 0): 6})
        self.assertIsNone(left(terms, paper + [("part", 7, 30)]))
        self.assertEqual(left(terms, paper + [("sum", ((0, 0, 1),))]), told[:-1])
        self.assertEqual(left(terms, [("sum", ((0, 0, 1), (1, 0, 1)))]), [])

    def test_very_many_steps(self):
        # Nobody may work, but one is wanted: each case in which a hand works is ended, some of them parted first.
        ward = Ward(31, [0] * 8, [(0, 1, 0)] * 6)
        terms = Terms(ward, [Most(hand, 2 ** 31 - 1, 0) for hand in range(8)] + [Want(30, 6, 1)])
        order = [(hand, day) for day in range(31) for hand in range(8)]
        paper = [("part",) + cell for cell in order] + [("sum", ((8, 0, 1),))]
        parted = 466
        for place, (hand, day) in reversed(list(enumerate(order))):
            for value in range(6):
                if parted and place < 247:
                    parted = parted - 1
                    paper.extend([("part",) + order[place + 1]] + [("sum", ((hand, 0, 1),))] * 7)
                else:
                    paper.append(("sum", ((hand, 0, 1),)))
        self.assertEqual(len(paper), 4999)
        self.assertEqual(left(terms, paper), [])
        self.assertEqual(left(terms, paper[:-1]), [{(0, 0): 6}])
        self.assertIsNone(left(terms, paper + paper[-1:]))

    def test_what_is_given_is_the_askers_own(self):
        paper = [("part", 0, 1), ("part", 1, 0)]
        first = left(TERMS, paper)
        self.assertEqual([type(case) for case in first], [dict] * 4)
        kept = [dict(case) for case in first]
        first[0][(9, 9)] = 9
        first[3].clear()
        self.assertEqual(first[1:3], kept[1:3])
        first.append({})
        self.assertEqual(left(TERMS, paper), kept)
        empty = left(TERMS, [])
        empty[0][(0, 0)] = 1
        empty.append({})
        self.assertEqual(left(TERMS, []), [{}])
        self.assertEqual(left(TERMS, paper), kept)

    def test_leaves_all_as_it_was(self):
        paper = [("part", 1, 0), ("sum", ((0, 0, 1),)), ("part", 0, 0)]
        handed = list(paper)
        told = left(TERMS, handed)
        is_paper(TERMS, handed)
        self.assertEqual(handed, paper)
        handed.clear()
        self.assertEqual(told, [{(1, 0): 1, (0, 0): 2}, {(1, 0): 1, (0, 0): 1}, {(1, 0): 1, (0, 0): 0}])
        self.assertEqual((TERMS.rules, len(TERMS.sums)), (tuple(RULES), 7))


class Wrong(unittest.TestCase):
    """Steps that are wrong, each at the first step, further on, at the last, and ahead of others."""

    GOOD = [("part", 1, 0), ("sum", ((0, 0, 1),))]
    RIGHT = GOOD + [("sum", ((1, 0, 1),))]

    def wrong(self, paper):
        self.assertIsNone(left(TERMS, paper), paper)
        self.assertIs(is_paper(TERMS, paper), False, paper)

    def anywhere_wrong(self, step):
        self.wrong([step])
        self.wrong(self.GOOD + [step])
        self.wrong(self.RIGHT + [step])
        self.wrong(self.GOOD[:1] + [step] + self.GOOD[1:])
        self.wrong([step] + self.RIGHT)
        self.wrong(self.RIGHT[:2] + [step] + self.RIGHT[2:])

    def test_what_they_are_made_of_is_right(self):
        self.assertEqual(left(TERMS, self.GOOD), [{(1, 0): 1}])
        self.assertIs(is_paper(TERMS, self.RIGHT), True)

    def test_no_case_is_left(self):
        for step in self.RIGHT + [("part", 0, 0), ("sum", ((0, 0, 1), (1, 0, 1))), ("sum", ()), ("end",)]:
            self.wrong(self.RIGHT + [step])
            self.wrong(self.RIGHT + [step, ("part", 0, 1)])

    def test_cells_that_are_none_of_the_wards(self):
        for cell in ((2, 0), (-1, 0), (-2, 0), (GREAT, 0), (-GREAT, 0), (0, 2), (0, -1), (0, -2), (0, GREAT),
                     (0, -GREAT), (2, 2), (-1, -1)):
            self.anywhere_wrong(("part",) + cell)

    def test_a_cell_that_is_pinned_already(self):
        self.wrong([("part", 1, 0), ("part", 1, 0)])
        self.wrong(self.GOOD + [("part", 1, 0)])
        self.wrong([("part", 0, 1), ("part", 1, 0), ("part", 0, 1)])
        self.wrong([("part", 0, 1), ("part", 1, 0), ("part", 0, 0), ("part", 1, 1), ("part", 0, 0)])

    def test_uses_that_do_not_end_the_case(self):
        for uses in ((), ((5, 0, 1),), ((0, 0, 1), (1, 0, 0)), ((7, 0, 1),), ((0, 1, 1),), ((-7, 0, 1),),
                     ((0, 0, -1), (1, 0, -1)), ((4, 0, 1),)):
            self.anywhere_wrong(("sum", uses))
        self.wrong([("part", 1, 0), ("sum", ((1, 0, 1),))])
        self.wrong(self.GOOD + [("sum", ((0, 0, 1),))])

    def test_another_first_word(self):
        for step in (("end",), ("Part", 0, 1), ("SUM", ((0, 0, 1), (1, 0, 1))), ("", 0, 1), ("parts", 0, 1),
                     ("su", ((0, 0, 1), (1, 0, 1))), ("sum ", ((0, 0, 1), (1, 0, 1))), ("rota", [[0]]), ("part 0 1",)):
            self.anywhere_wrong(step)

    def test_missed_by_one_at_the_last_step(self):
        for many, told in ((3, []), (2, None)):
            terms = Terms(WARD, [Want(0, 1, many)])
            paper = [("part", 1, 1), ("sum", ((0, 0, 1),)), ("sum", ((0, 0, 1),))]
            self.assertEqual(left(terms, paper), told)
            self.assertIs(is_paper(terms, paper), told == [])

    def test_one_step_too_few(self):
        for many in range(len(self.RIGHT)):
            self.assertIs(is_paper(TERMS, self.RIGHT[:many]), False)

    def test_a_paper_for_other_terms(self):
        self.assertIs(is_paper(only(TERMS, [0, 1]), self.RIGHT), True)
        self.assertIs(is_paper(only(TERMS, [1, 0]), self.RIGHT), False)
        self.assertIs(is_paper(only(TERMS, [0]), self.RIGHT), False)
        self.assertIs(is_paper(more(TERMS, [Rule()]), self.RIGHT), True)
        self.assertIs(is_paper(Terms(WARD, []), self.RIGHT), False)


class Reading(unittest.TestCase):
    """Papers of chance, some of them wrong, against a reading of the tests' own over all tables."""

    def step(self, chance, terms, cases):
        pins = cases[-1] if cases else {}
        free = [cell for cell in itertools.product(range(2), range(2)) if cell not in pins]
        uses = one_line(terms, pins)
        roll = chance.random()
        if uses is not None and roll < 0.7:
            return ("sum", uses)
        if free and roll < 0.93:
            return ("part",) + chance.choice(free)
        if roll < 0.97:
            return ("sum", ((chance.randrange(len(terms.rules)), 0, chance.randrange(3)),))
        return ("part", chance.randrange(-1, 3), chance.randrange(3))

    def test_as_expected(self):
        chance = random.Random(34)
        wrong = 0
        for number in range(150):
            terms = only(TERMS, chance.sample(range(7), 4))
            paper = []
            for place in range(chance.randrange(1, 12)):
                paper.append(self.step(chance, terms, expected_left(terms, paper) or []))
            told = expected_left(terms, paper)
            wrong = wrong + (told is None)
            self.assertEqual(left(terms, paper), told, paper)
            self.assertIs(is_paper(terms, paper), told == [], paper)
        self.assertTrue(10 < wrong < 140, wrong)


class WhatPapersShow(unittest.TestCase):
    MET = [
        [],
        [Want(0, 1, 1), Away(1, 0b01)],
        [Want(0, 1, 1), Want(1, 2, 1), Most(0, 0b11, 1)],
        [Apart(0, 1), Want(0, 1, 1), Want(1, 1, 1), Least(1, 0b11, 1)],
        [Hours(0, 20, 20), Rest(0, 0), Nights(0, 1), Beside(1, 0)],
        [Off(0, 1), Least(0, 0b11, 2), Hours(0, 24, 24), Want(0, 1, 0)],
    ]
    UNMET = [
        [Want(0, 1, 2), Away(1, 0b01)],
        [Want(0, 1, 1), Want(0, 2, 1), Beside(0, 1), Apart(0, 1)],
        [Hours(0, 21, 23)],
        [Rest(0, 1), Want(0, 2, 1), Want(1, 1, 2)],
        [Least(0, 0b11, 2), Least(1, 0b11, 2), Apart(0, 1), Hours(0, 0, 23)],
        [Want(1, 1, 3)],
    ]
    CELLS = [(0, 0), (1, 0), (0, 1), (1, 1)]

    def test_a_met_case_is_always_left(self):
        for rules in self.MET:
            terms = Terms(WARD, rules)
            met = [rota for rota in tables(WARD) if meets(terms, rota)]
            self.assertTrue(met)
            for order in itertools.permutations(self.CELLS):
                paper = long_paper(terms, order)
                for many in range(len(paper) + 1):
                    told = left(terms, paper[:many])
                    self.assertIsNotNone(told)
                    self.assertIs(is_paper(terms, paper[:many]), False)
                    for rota in met:
                        self.assertEqual(len([pins for pins in told if agrees(rota, pins)]), 1)

    def test_no_table_agrees_with_two_cases_that_are_left(self):
        for rules in self.MET + self.UNMET:
            terms = Terms(WARD, rules)
            told = left(terms, long_paper(terms, self.CELLS))
            for rota in tables(WARD):
                many = len([pins for pins in told if agrees(rota, pins)])
                self.assertLessEqual(many, 1)
                if meets(terms, rota):
                    self.assertEqual(many, 1)

    def test_where_no_table_meets_them_a_paper_shows_it_in_any_order(self):
        for rules in self.UNMET:
            terms = Terms(WARD, rules)
            self.assertEqual([rota for rota in tables(WARD) if meets(terms, rota)], [])
            for order in itertools.permutations(self.CELLS):
                paper = long_paper(terms, order)
                self.assertIs(is_paper(terms, paper), True)
                self.assertIs(is_paper(terms, paper[:-1]), False)
                self.assertIsNone(left(terms, paper + [("part", 0, 0)]))

    def test_parts_that_were_not_needed(self):
        terms = Terms(WARD, [Want(1, 1, 3)])
        uses = ((0, 0, 2), (0, 0, 1))
        self.assertIs(is_paper(terms, [("sum", uses)]), True)
        self.assertIs(is_paper(terms, [("part", 1, 0), ("sum", uses), ("part", 0, 0)] + [("sum", uses)] * 3), True)
        self.assertIs(is_paper(terms, [("part", 1, 0), ("sum", uses), ("part", 0, 0)] + [("sum", uses)] * 2), False)

    def test_the_kinds(self):
        told = left(TERMS, [("part", 0, 1)])
        self.assertIs(type(told), list)
        for case in told:
            self.assertEqual([type(key) for key in case], [tuple])
            self.assertEqual([type(value) for value in case.values()], [int])


if __name__ == "__main__":
    unittest.main()
