"""Plain terms, cases ended by one line alone, and by a shortage (points 2, 52, 53 and 54)."""

import copy
import itertools
import random
import unittest

from rotaward.costly import Denied, Near
from rotaward.pairs import Apart, Beside
from rotaward.plain import alone, is_plain, shortage
from rotaward.rules import Away, Hours, Least, Most, Rule, Want
from rotaward.terms import Terms
from rotaward.turns import Nights, Off, Rest
from rotaward.wards import Ward

# The first hand can hold both posts, the second the first alone.
WARD = Ward(2, [0b11, 0b01], [(0b01, 8, 0), (0b10, 12, 1)])
ONE = Ward(1, [0], [(0, 8, 0)])
TWO_POSTS = Ward(1, [0], [(0, 8, 0), (0, 8, 0)])
TWO_DAYS = Ward(2, [0], [(0, 8, 0)])
NO_HANDS = Ward(3, [], [(0, 8, 0)])
NO_POSTS = Ward(2, [1, 2], [])
ALL_DAYS = 2 ** 31 - 1
MOST_TIMES = 10 ** 21


def tables(ward):
    rows = [itertools.product(ward.choices(hand), repeat=ward.days) for hand in range(len(ward.hands))]
    return [[list(row) for row in rota] for rota in itertools.product(*rows)]


def agrees(rota, pins):
    return all(rota[hand][day] == value for (hand, day), value in pins.items())


def came_to(rota, parts):
    return sum(number for hand, day, post, number in parts if rota[hand][day] == post)


def keeps(rota, rule, ward):
    return all(came_to(rota, parts) >= bound for parts, bound in rule.lines(ward))


def reached(ward, pins, lines):
    """What the lines, each so many times, come to at most in the case, cell by cell, less their bounds."""
    numbers = {}
    for (parts, bound), times in lines:
        for hand, day, post, number in parts:
            numbers[(hand, day, post)] = numbers.get((hand, day, post), 0) + number * times
    most = 0
    for hand in range(len(ward.hands)):
        for day in range(ward.days):
            values = [pins[(hand, day)]] if (hand, day) in pins else ward.choices(hand)
            most += max(numbers.get((hand, day, value), 0) for value in values)
    return most - sum(bound * times for (parts, bound), times in lines)


def closing_lines(terms, pins):
    """The lines that close the case alone, by their numbers."""
    found = []
    for rule, told in enumerate(terms.rules):
        for number, line in enumerate(told.lines(terms.ward)):
            if reached(terms.ward, pins, [(line, 1)]) < 0:
                found.append((rule, number))
    return found


def asked_of(terms):
    """The numbers of the rules that a shortage looks at."""
    priced = [number for number, rule in enumerate(terms.rules) if rule.price(terms.ward) is not None]
    plain = [number for number, rule in enumerate(terms.rules) if rule.plain(terms.ward) is not None]
    return sorted(plain + (priced if len(priced) == 1 else []))


class Looking(unittest.TestCase):
    def need_uses(self, terms, pins, uses):
        self.assertIs(type(uses), tuple)
        lines = []
        for use in uses:
            self.assertIs(type(use), tuple)
            self.assertEqual([type(number) for number in use], [int, int, int])
            rule, line, times = use
            self.assertIn(rule, range(len(terms.rules)))
            told = terms.rules[rule].lines(terms.ward)
            self.assertIn(line, range(len(told)))
            self.assertTrue(1 <= times)
            lines.append((told[line], times))
        named = [use[:2] for use in uses]
        for name in named:
            self.assertLessEqual(sum(use[2] for use in uses if use[:2] == name), MOST_TIMES)
        self.assertLess(reached(terms.ward, pins, lines), 0)

    def look_alone(self, terms, pins):
        before = (dict(pins), terms.rules, copy.deepcopy(terms.sums))
        uses = alone(terms, pins)
        self.assertEqual((pins, terms.rules, terms.sums), before)
        found = closing_lines(terms, pins)
        if found:
            self.need_uses(terms, pins, uses)
            self.assertEqual(len(uses), 1)
            self.assertIn(uses[0][:2], found)
            self.assertEqual(uses[0][2], 1)
        else:
            self.assertIsNone(uses)
        return uses

    def look_short(self, terms, pins):
        """The shortage of a case that no line closes alone."""
        self.assertEqual(closing_lines(terms, pins), [])
        before = (dict(pins), terms.rules, copy.deepcopy(terms.sums))
        uses = shortage(terms, pins)
        self.assertEqual((pins, terms.rules, terms.sums), before)
        if uses is not None:
            self.need_uses(terms, pins, uses)
            self.assertLessEqual({use[0] for use in uses}, set(asked_of(terms)))
        return uses

    def look_over_all(self, terms, pins):
        """The same, and that it is None just where a table agrees with the pins and keeps what is asked."""
        uses = self.look_short(terms, pins)
        rules = [terms.rules[number] for number in asked_of(terms)]
        there = any(
            all(keeps(rota, rule, terms.ward) for rule in rules) for rota in tables(terms.ward) if agrees(rota, pins)
        )
        self.assertEqual(uses is None, there, uses)
        return uses


class Plain(unittest.TestCase):
    NEAR = Near([[0, 1], [1, 0]], 2)
    DENIED = Denied([(0, 0, 1, 5)], 2)

    def plain(self, rules):
        told = is_plain(Terms(WARD, rules))
        self.assertIs(type(told), bool)
        return told

    def test_without_rules(self):
        self.assertTrue(self.plain([]))
        self.assertTrue(is_plain(Terms(NO_HANDS, [])))

    def test_plain_ways_alone(self):
        self.assertTrue(self.plain([Want(0, 1, 1), Want(0, 1, 2), Away(0, 0), Most(1, 0b11, 1), Most(1, ALL_DAYS, 0)]))

    def test_prices(self):
        for rule in (self.NEAR, self.DENIED, Denied([], 0)):
            self.assertTrue(self.plain([rule]))
            self.assertTrue(self.plain([rule, Want(0, 1, 1)]))
            self.assertTrue(self.plain([Away(0, 1), rule, Want(0, 1, 1)]))
        self.assertFalse(self.plain([self.NEAR, self.DENIED]))
        self.assertFalse(self.plain([self.NEAR, self.NEAR]))
        self.assertFalse(self.plain([self.DENIED, Want(0, 1, 1), self.DENIED]))

    def test_neither(self):
        for rule in (Rule(), Least(0, 0b11, 0), Hours(0, 0, 9), Nights(0, 1), Rest(0, 1), Off(0, 1), Apart(0, 1),
                     Beside(0, 1), Most(0, 0b01, 1), Most(0, 0b10, 1)):
            self.assertFalse(self.plain([rule]))
            self.assertFalse(self.plain([Want(0, 1, 1), rule]))
            self.assertFalse(self.plain([rule, self.NEAR]))

    def test_what_is_most_of_all_days_hangs_on_the_month(self):
        self.assertTrue(is_plain(Terms(Ward(1, [0], []), [Most(0, 0b01, 1)])))
        self.assertFalse(is_plain(Terms(Ward(2, [0], []), [Most(0, 0b01, 1)])))


class Alone(Looking):
    def test_just_so_and_by_one_not(self):
        self.assertIsNotNone(self.look_alone(Terms(WARD, [Want(0, 1, 3)]), {}))
        self.assertIsNone(self.look_alone(Terms(WARD, [Want(0, 1, 2)]), {}))
        self.assertIsNotNone(self.look_alone(Terms(WARD, [Want(0, 1, 2)]), {(1, 0): 0}))
        self.assertIsNotNone(self.look_alone(Terms(WARD, [Want(0, 1, 2)]), {(0, 0): 2}))
        self.assertIsNone(self.look_alone(Terms(WARD, [Want(0, 1, 2)]), {(0, 0): 1}))
        self.assertIsNone(self.look_alone(Terms(WARD, [Want(0, 2, 1)]), {}))
        self.assertIsNotNone(self.look_alone(Terms(WARD, [Want(0, 2, 2)]), {}))

    def test_which_line(self):
        terms = Terms(WARD, [Want(0, 1, 1), Hours(0, 0, 20), Away(0, 0b11), Rule()])
        self.assertIsNone(alone(terms, {}))
        self.assertEqual(alone(terms, {(0, 1): 1}), ((2, 1, 1),))
        self.assertEqual(alone(terms, {(0, 0): 1}), ((2, 0, 1),))
        terms = Terms(WARD, [Rule(), Hours(0, 0, 20), Apart(0, 1)])
        self.assertEqual(alone(terms, {(0, 0): 2, (0, 1): 2}), ((1, 1, 1),))
        self.assertEqual(alone(terms, {(0, 1): 1, (1, 1): 1}), ((2, 2, 1),))

    def test_several_close_it(self):
        self.look_alone(Terms(WARD, [Want(0, 1, 3), Most(0, 1, -1), Hours(0, 25, 24)]), {})

    def test_two_that_close_it_only_together(self):
        self.assertIsNone(self.look_alone(Terms(ONE, [Want(0, 1, 1), Away(0, 1)]), {}))

    def test_no_rules_no_hands_no_posts(self):
        self.assertIsNone(self.look_alone(Terms(WARD, []), {}))
        self.assertIsNone(self.look_alone(Terms(WARD, [Rule()]), {(0, 0): 1}))
        self.assertIsNone(self.look_alone(Terms(NO_HANDS, [Want(0, 1, 0)]), {}))
        self.assertIsNotNone(self.look_alone(Terms(NO_HANDS, [Want(0, 1, 1)]), {}))
        self.assertIsNotNone(self.look_alone(Terms(NO_POSTS, [Least(0, 1, 1)]), {}))
        self.assertIsNone(self.look_alone(Terms(NO_POSTS, [Least(0, 1, 0), Most(1, 3, 0)]), {}))

    def test_prices(self):
        old = [[1, 0], [0, 2]]
        # The second hand can't hold the second post, so one cell is unlike in any case.
        self.assertIsNone(self.look_alone(Terms(WARD, [Near(old, 1)]), {}))
        self.assertEqual(self.look_alone(Terms(WARD, [Near(old, 0)]), {}), ((0, 0, 1),))
        self.assertIsNone(self.look_alone(Terms(WARD, [Near(old, 1)]), {(0, 0): 1}))
        self.assertEqual(self.look_alone(Terms(WARD, [Near(old, 1)]), {(0, 0): 2}), ((0, 0, 1),))


class Shortage(Looking):
    def test_wants_alone(self):
        self.assertEqual(
            self.look_over_all(Terms(TWO_POSTS, [Want(0, 1, 1), Want(0, 2, 1)]), {}), ((0, 0, 1), (1, 0, 1))
        )
        self.assertIsNone(self.look_over_all(Terms(TWO_POSTS, [Want(0, 1, 1)]), {}))
        self.assertIsNone(self.look_over_all(Terms(WARD, [Want(0, 1, 1), Want(0, 2, 1)]), {}))
        self.assertIsNotNone(self.look_over_all(Terms(WARD, [Want(0, 1, 2), Want(0, 2, 1), Want(1, 1, 2)]), {}))

    def test_mosts(self):
        wants = [Want(0, 1, 1), Want(1, 1, 1)]
        self.assertEqual(
            self.look_over_all(Terms(TWO_DAYS, wants + [Most(0, 0b11, 1)]), {}), ((0, 0, 1), (1, 0, 1), (2, 0, 1))
        )
        self.assertIsNone(self.look_over_all(Terms(TWO_DAYS, wants + [Most(0, 0b11, 2)]), {}))
        self.assertIsNone(self.look_over_all(Terms(TWO_DAYS, wants + [Most(0, 0b01, 0)]), {}))
        # Of two the lesser counts, whichever stands first.
        for rules in ([Most(0, 3, 1), Most(0, 3, 2)], [Most(0, 3, 2), Most(0, 3, 1)], [Most(0, ALL_DAYS, 1)]):
            self.assertIsNotNone(self.look_over_all(Terms(TWO_DAYS, wants + rules), {}))

    def test_aways(self):
        self.assertEqual(
            self.look_over_all(Terms(ONE, [Want(0, 1, 1), Away(0, 1)]), {}), ((0, 0, 1), (1, 0, 1))
        )
        self.assertIsNone(self.look_over_all(Terms(ONE, [Want(0, 1, 0), Away(0, 1)]), {}))
        # The line of an Away is counted by its days: day 1 is its first, and days that are not there have none.
        terms = Terms(TWO_DAYS, [Away(0, 0b10), Want(1, 1, 1)])
        self.assertEqual(self.look_over_all(terms, {}), ((0, 0, 1), (1, 0, 1)))
        terms = Terms(TWO_DAYS, [Away(0, ALL_DAYS), Want(1, 1, 1)])
        self.assertEqual(self.look_over_all(terms, {}), ((0, 1, 1), (1, 0, 1)))
        self.assertIsNone(self.look_over_all(Terms(TWO_DAYS, [Away(0, 0b01), Want(1, 1, 1)]), {}))

    def test_several_together(self):
        ward = Ward(2, [0, 0], [(0, 8, 0)])
        wants = [Want(0, 1, 1), Want(1, 1, 2)]
        self.assertIsNone(self.look_over_all(Terms(ward, wants + [Most(0, 3, 1), Away(1, 0)]), {}))
        self.assertIsNotNone(self.look_over_all(Terms(ward, wants + [Most(0, 3, 1), Away(1, 1)]), {}))
        self.assertIsNotNone(self.look_over_all(Terms(ward, wants + [Most(0, 3, 1), Most(1, 3, 1)]), {}))
        self.assertIsNone(self.look_over_all(Terms(ward, wants + [Most(0, 3, 1), Most(1, 3, 2)]), {}))

    def test_a_most_that_only_days_away_would_pass(self):
        # The first hand may work on two days, but can on one alone: that counts, and not its Most.
        ward = Ward(3, [0, 0], [(0, 8, 0)])
        wants = [Want(0, 1, 1), Want(1, 1, 1), Want(2, 1, 2)]
        uses = self.look_over_all(Terms(ward, wants + [Most(0, 7, 2), Away(0, 0b011), Most(1, 7, 2)]), {})
        self.assertIn(4, [use[0] for use in uses])

    def test_the_greatest_want_counts(self):
        ward = Ward(1, [0, 0], [(0, 8, 0)])
        for rules in ([Want(0, 1, 1), Want(0, 1, 2)], [Want(0, 1, 2), Want(0, 1, 1)]):
            self.assertIsNotNone(self.look_over_all(Terms(ward, rules + [Away(0, 1)]), {}))
            self.assertIsNone(self.look_over_all(Terms(ward, rules + [Away(0, 0)]), {}))

    def test_pinned_cells(self):
        terms = Terms(Ward(1, [0, 0], [(0, 8, 0), (0, 8, 0)]), [Want(0, 1, 1), Want(0, 2, 1)])
        for value in (1, 2):
            self.assertIsNone(self.look_over_all(terms, {(0, 0): value}))
        self.assertIsNotNone(self.look_over_all(terms, {(0, 0): 0}))
        self.assertIsNone(self.look_over_all(terms, {(0, 0): 1, (1, 0): 2}))
        three = Terms(Ward(2, [0, 0, 0], [(0, 8, 0)]), [Want(1, 1, 3)])
        self.assertIsNone(self.look_over_all(three, {(0, 1): 1, (1, 1): 1}))
        self.assertIsNone(self.look_over_all(three, {(0, 1): 1, (1, 1): 1, (2, 1): 1, (2, 0): 1}))
        days = Terms(TWO_DAYS, [Want(1, 1, 1), Most(0, 0b11, 1)])
        # A day on which the hand is pinned to work is one of those that it may.
        self.assertEqual(self.look_over_all(days, {(0, 0): 1}), ((0, 0, 1), (1, 0, 1)))
        self.assertIsNone(self.look_over_all(days, {(0, 0): 0}))
        self.assertIsNone(self.look_over_all(days, {(0, 1): 1}))

    def test_a_price_beside_wants_and_mosts(self):
        ward = Ward(2, [0, 0], [(0, 8, 0)])
        old = [[0, 0], [0, 0]]
        wants = [Want(0, 1, 1), Want(1, 1, 1)]
        self.assertIsNotNone(self.look_over_all(Terms(ward, wants + [Near(old, 1)]), {}))
        self.assertIsNone(self.look_over_all(Terms(ward, wants + [Near(old, 2)]), {}))
        wishes = [(0, 0, 1, 5), (0, 1, 1, 7), (1, 0, 1, 20), (1, 1, 1, 10)]
        for rules, least in (
            (wants, 12),
            (wants + [Most(0, 3, 1)], 15),
            (wants + [Most(0, 3, 1), Away(0, 1)], 27),
            (wants + [Away(0, 2)], 15),
            (wants + [Most(0, 3, 0)], 30),
            (wants + [Most(0, 3, 1), Most(1, 3, 1), Away(1, 1)], 15),
        ):
            for most in (least - 1, least):
                terms = Terms(ward, rules + [Denied(wishes, most)])
                self.assertEqual(self.look_over_all(terms, {}) is None, most == least, (least, most))

    def test_a_price_for_being_off(self):
        # Both wish to work, one of them is away on a day, the other may work but once.
        ward = Ward(2, [0, 0], [(0, 8, 0)])
        wishes = [(hand, day, 0, 5 + hand + 3 * day) for hand in range(2) for day in range(2)]
        for most in (4, 5, 10, 11, 12):
            terms = Terms(ward, [Denied(wishes, most), Away(1, 1), Most(0, 3, 1)])
            self.assertEqual(self.look_over_all(terms, {}) is None, most >= 11, most)
            terms = Terms(ward, [Away(1, 1), Denied(wishes, most)])
            self.assertEqual(self.look_over_all(terms, {}) is None, most >= 6, most)

    def test_what_pinned_cells_cost(self):
        ward = Ward(2, [0], [(0, 8, 0), (0, 8, 0)])
        terms = Terms(ward, [Denied([(0, 0, 1, 5), (0, 0, 0, 2), (0, 1, 1, 6)], 10), Want(1, 1, 1)])
        self.assertIsNotNone(self.look_over_all(terms, {(0, 0): 1}))
        for pins in ({}, {(0, 0): 0}, {(0, 0): 2}):
            self.assertIsNone(self.look_over_all(terms, pins))

    def test_a_price_alone(self):
        self.assertIsNone(self.look_over_all(Terms(WARD, [Near([[0, 1], [1, 0]], 0)]), {}))
        self.assertIsNone(self.look_over_all(Terms(WARD, [Denied([(0, 0, 0, 9), (0, 0, 1, 9)], 0)]), {}))
        self.assertIsNotNone(
            self.look_over_all(Terms(WARD, [Denied([(0, 0, 0, 9), (0, 0, 1, 9)], 0), Away(0, 1)]), {})
        )

    def test_two_prices_are_not_looked_at(self):
        rules = [Want(0, 1, 1), Near([[0]], 0), Denied([(0, 0, 0, 1)], 0)]
        self.assertIsNotNone(self.look_over_all(Terms(ONE, rules[:2]), {}))
        self.assertIsNone(self.look_over_all(Terms(ONE, rules), {}))
        self.assertIsNotNone(self.look_over_all(Terms(ONE, rules[1:] + [Want(0, 1, 1), Away(0, 1)]), {}))

    def test_rules_with_neither_way_are_not_looked_at(self):
        ward = Ward(2, [0], [(0, 8, 0)])
        for rule in (Least(0, 0b11, 2), Hours(0, 16, 20), Most(0, 0b01, 0), Off(0, 2), Rest(0, 1)):
            self.assertIsNone(self.look_over_all(Terms(ward, [rule, Most(0, 0b11, 1)]), {}))
        uses = self.look_over_all(Terms(ward, [Rule(), Least(0, 3, 2), Want(0, 1, 1), Rule(), Away(0, 1)]), {})
        self.assertEqual(uses, ((2, 0, 1), (4, 0, 1)))

    def test_no_rules_no_hands_no_posts(self):
        self.assertIsNone(self.look_over_all(Terms(WARD, []), {}))
        self.assertIsNone(self.look_over_all(Terms(NO_HANDS, [Want(0, 1, 0), Near([], 0)]), {}))
        self.assertIsNone(self.look_over_all(Terms(NO_POSTS, [Away(0, 3), Most(1, 3, 0), Near([[0, 0], [0, 0]], 0)]), {}))


def random_plain_rules(chance, ward):
    """Rules with a plain way, mostly one with a price, seldom others."""
    hands = range(len(ward.hands))
    rules = []
    for number in range(chance.randint(1, 8)):
        word = chance.choice("wwwwmmaao")
        if word == "w" and ward.posts:
            rules.append(Want(chance.randrange(ward.days), chance.randint(1, len(ward.posts)), chance.randint(0, 2)))
        elif word == "m":
            rules.append(Most(chance.choice(hands), 2 ** ward.days - 1, chance.randint(0, 3)))
        elif word == "a":
            rules.append(Away(chance.choice(hands), chance.randrange(2 ** ward.days)))
        elif word == "o":
            rules.append(chance.choice([Least(0, 1, 1), Most(0, 1, 0), Rule(), Rest(0, 1), Hours(0, 0, 9)]))
    for number in range(chance.choice([0, 1, 1, 1, 1, 2])):
        rules.insert(chance.randint(0, len(rules)), random_price(chance, ward))
    return rules


def random_price(chance, ward):
    posts = len(ward.posts)
    if chance.random() < 0.5:
        return Near([[chance.randint(0, posts) for day in range(ward.days)] for hand in ward.hands], chance.randint(0, 5))
    wishes = []
    for number in range(chance.randint(0, 7)):
        hand = chance.randrange(len(ward.hands))
        wishes.append((hand, chance.randrange(ward.days), chance.randint(0, posts), chance.choice([1, 2, 3, 10 ** 9])))
    return Denied(wishes, chance.choice([0, 2, 5, 10 ** 9, 10 ** 9 + 3]))


def random_ward(chance):
    posts = [(chance.choice([0, 0, 1, 2]), 8, chance.randint(0, 1)) for post in range(chance.randint(0, 2))]
    hands = [chance.choice([0, 1, 2, 3, 3]) for hand in range(chance.randint(1, 3))]
    return Ward(chance.randint(1, 3 if len(hands) < 3 else 2), hands, posts)


def random_pins(chance, ward, share):
    pins = {}
    for hand in range(len(ward.hands)):
        for day in range(ward.days):
            if chance.random() < share:
                pins[(hand, day)] = chance.choice(ward.choices(hand))
    return pins


class ByChance(Looking):
    def test_small_wards(self):
        chance = random.Random(54)
        seen = {"alone": 0, "seats": 0, "dear": 0, "none": 0}
        for number in range(450):
            ward = random_ward(chance)
            terms = Terms(ward, random_plain_rules(chance, ward))
            for share in (0, 0.2, 0.4):
                pins = random_pins(chance, ward, share)
                with self.subTest(number=number, pins=pins):
                    if self.look_alone(terms, pins) is not None:
                        seen["alone"] += 1
                        continue
                    uses = self.look_over_all(terms, pins)
                    if uses is None:
                        seen["none"] += 1
                    else:
                        dear = any(terms.rules[use[0]].price(ward) is not None for use in uses)
                        seen["dear" if dear else "seats"] += 1
        self.assertGreater(min(seen.values()), 25, seen)

    def test_asked_again_behind_other_questions(self):
        chance = random.Random(2)
        asked = []
        for number in range(40):
            ward = random_ward(chance)
            terms = Terms(ward, random_plain_rules(chance, ward))
            pins = random_pins(chance, ward, 0.2)
            if closing_lines(terms, pins) == []:
                asked.append((terms, pins, shortage(terms, pins)))
        for terms, pins, told in reversed(asked):
            self.assertEqual(self.look_short(terms, pins) is None, told is None)


class Large(Looking):
    WARD = Ward(31, [0b111111] * 8, [(1 << post, 8, post % 2) for post in range(6)])

    def whole_month(self, many):
        """Each of the first posts wanted by one hand on each day of the month."""
        return [Want(day, post, 1) for day in range(31) for post in range(1, many + 1)]

    def test_all_seats_just_so_and_one_too_few(self):
        # 93 seats; the hands may bear 93 days together, and then 92.
        mosts = [Most(hand, ALL_DAYS, many) for hand, many in enumerate((31, 20, 15, 10, 7, 5, 3, 2))]
        terms = Terms(self.WARD, self.whole_month(3) + mosts)
        self.assertIsNone(self.look_short(terms, {}))
        less = Terms(self.WARD, self.whole_month(3) + mosts[:-1] + [Most(7, ALL_DAYS, 1)])
        uses = self.look_short(less, {})
        self.assertEqual(len(uses), 101 - 1)
        # The first hand has no more cells than it may bear, so its Most is not needed.
        self.assertNotIn(93, [use[0] for use in uses])

    def test_aways_of_all_hands_on_one_day(self):
        aways = [Away(hand, 0b1000) for hand in range(6)]
        terms = Terms(self.WARD, self.whole_month(3) + aways)
        uses = self.look_short(terms, {})
        self.assertEqual(len(uses), 9)
        self.assertIsNone(self.look_short(Terms(self.WARD, self.whole_month(3) + aways[:5]), {}))

    def test_the_least_change_just_so_and_one_too_few(self):
        old = [[1] * 31] + [[0] * 31 for hand in range(7)]
        aways = [Away(0, 0b1011)]
        for many in (67, 68, 69):
            terms = Terms(self.WARD, self.whole_month(3) + aways + [Near(old, many)])
            # Two hands come to work on each day; and where the first one is away, it goes, and a third one comes.
            self.assertEqual(self.look_short(terms, {}) is None, many >= 62 + 3 * 2, many)
            # The first hand goes to another post, and two more come still: the pinned cell is one change more.
            self.assertEqual(self.look_short(terms, {(0, 5): 2}) is None, many >= 62 + 3 * 2 + 1, many)

    def test_great_weights(self):
        wishes = [(hand, day, 1, 10 ** 9) for hand in range(6) for day in range(5)]
        wants = [Want(day, 1, 7) for day in range(31)]
        mosts = [Most(hand, ALL_DAYS, 28) for hand in range(8)]
        for most, there in ((25 * 10 ** 9, True), (25 * 10 ** 9 - 1, False)):
            terms = Terms(self.WARD, wants + [Denied(wishes, most)])
            self.assertEqual(self.look_short(terms, {}) is None, there)
        self.look_short(Terms(self.WARD, wants + mosts + [Denied(wishes, 10 ** 12)]), {})
        dear = Terms(self.WARD, wants + mosts + [Denied(wishes, 24 * 10 ** 9)])
        self.assertIsNotNone(self.look_short(dear, {}))

    def test_by_chance(self):
        chance = random.Random(31)
        for number in range(12):
            ward = Ward(31, [chance.randrange(64) for hand in range(8)], [(1 << post, 8, 0) for post in range(6)])
            rules = [Want(chance.randrange(31), chance.randint(1, 6), 1) for want in range(70)]
            rules += [Most(hand, ALL_DAYS, chance.randint(8, 25)) for hand in range(8)]
            rules += [Away(chance.randrange(8), 31 << chance.randrange(27)) for away in range(20)]
            old = [[chance.randint(0, 6) for day in range(31)] for hand in range(8)]
            rules.append(Near(old, chance.randint(40, 240)))
            rules = [rule for rule in rules if closing_lines(Terms(ward, [rule]), {}) == []]
            with self.subTest(number=number):
                self.look_short(Terms(ward, rules), {})


if __name__ == "__main__":
    unittest.main()
