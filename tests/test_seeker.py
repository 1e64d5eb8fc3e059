"""The search: a table, a right paper that there is none, or open (points 2, 6, 55 and 56)."""

import copy
import itertools
import random
import unittest

from rotaward.costly import Denied, Near
from rotaward.errors import NoMost, WardError
from rotaward.pairs import Apart, Beside
from rotaward.papers import is_paper
from rotaward.plain import is_plain
from rotaward.rules import Away, Hours, Least, Most, Rule, Want
from rotaward.seeker import seek
from rotaward.terms import Terms
from rotaward.turns import Nights, Off, Rest
from rotaward.wards import Ward

# The first hand can hold both posts, the second the first alone.
WARD = Ward(2, [0b11, 0b01], [(0b01, 8, 0), (0b10, 12, 1)])
ONE = Ward(1, [0], [(0, 8, 0)])
NO_HANDS = Ward(3, [], [(0, 8, 0)])
NO_POSTS = Ward(2, [1, 2], [])
ALL_DAYS = 2 ** 31 - 1
MOST_TIMES = 10 ** 21


def tables(ward):
    rows = [itertools.product(ward.choices(hand), repeat=ward.days) for hand in range(len(ward.hands))]
    return [[list(row) for row in rota] for rota in itertools.product(*rows)]


def came_to(rota, parts):
    return sum(number for hand, day, post, number in parts if rota[hand][day] == post)


def keeps_all(terms, rota):
    lines = [line for rule in terms.rules for line in rule.lines(terms.ward)]
    return all(came_to(rota, parts) >= bound for parts, bound in lines)


def is_rota(ward, rota):
    if [len(row) for row in rota] != [ward.days] * len(ward.hands):
        return False
    return all(type(value) is int and value in ward.choices(hand) for hand, row in enumerate(rota) for value in row)


def is_ended(terms, lines, pins, uses):
    numbers = {}
    bounds = 0
    for rule, line, times in uses:
        if rule not in range(len(lines)) or line not in range(len(lines[rule])) or times < 1:
            return False
        parts, bound = lines[rule][line]
        bounds += bound * times
        for hand, day, post, number in parts:
            numbers.setdefault((hand, day), {}).setdefault(post, 0)
            numbers[(hand, day)][post] += number * times
    most = 0
    for cell, by_post in numbers.items():
        values = [pins[cell]] if cell in pins else terms.ward.choices(cell[0])
        most += max(by_post.get(value, 0) for value in values)
    return most < bounds


def leaves(terms, paper):
    """Which cases a paper leaves; None where a step is wrong."""
    ward = terms.ward
    lines = [rule.lines(ward) for rule in terms.rules]
    cases = [{}]
    for step in paper:
        if not cases:
            return None
        pins = cases.pop()
        if step[0] == "part":
            hand, day = step[1:]
            if hand not in range(len(ward.hands)) or day not in range(ward.days) or (hand, day) in pins:
                return None
            cases.extend({**pins, (hand, day): value} for value in sorted(ward.choices(hand), reverse=True))
        elif step[0] != "sum" or not is_ended(terms, lines, pins, step[1]):
            return None
    return cases


class Seeking(unittest.TestCase):
    def look(self, terms, most):
        """What is told, after a look at all that is promised of it."""
        before = (terms.ward.days, terms.ward.hands, terms.ward.posts, terms.rules, copy.deepcopy(terms.sums))
        told = seek(terms, most)
        after = (terms.ward.days, terms.ward.hands, terms.ward.posts, terms.rules, terms.sums)
        self.assertEqual(after, before)
        self.assertIs(type(told), tuple)
        self.assertEqual(len(told), 2)
        self.assertIs(type(told[1]), list)
        self.assertIn(told[0], ("rota", "none", "open"))
        if told[0] == "rota":
            self.assertTrue(all(type(row) is list for row in told[1]))
            self.assertTrue(is_rota(terms.ward, told[1]), told[1])
            self.assertTrue(keeps_all(terms, told[1]), told[1])
            return told
        self.need_steps(told[1])
        cases = leaves(terms, told[1])
        self.assertIsNotNone(cases)
        if told[0] == "none":
            self.assertEqual(cases, [])
            self.assertLessEqual(len(told[1]), most)
            if is_plain(terms):
                self.assertEqual(len(told[1]), 1)
        else:
            self.assertNotEqual(cases, [])
            self.assertEqual(len(told[1]), most)
        return told

    def need_steps(self, paper):
        for step in paper:
            self.assertIs(type(step), tuple)
            if step[0] == "part":
                self.assertEqual([type(number) for number in step[1:]], [int, int])
                continue
            self.assertEqual((step[0], len(step), type(step[1])), ("sum", 2, tuple))
            times = {}
            for use in step[1]:
                self.assertIs(type(use), tuple)
                self.assertEqual([type(number) for number in use], [int, int, int])
                times[use[:2]] = times.get(use[:2], 0) + use[2]
            self.assertLessEqual(max(times.values()), MOST_TIMES)

    def look_over_all(self, terms, most):
        """The same, and that none is told only where no table meets the terms."""
        told = self.look(terms, most)
        there = any(keeps_all(terms, rota) for rota in tables(terms.ward))
        self.assertNotEqual(told[0], "none" if there else "rota")
        cells = len(terms.ward.hands) * terms.ward.days
        if most >= (cells + 1) * terms.ward.tables():
            self.assertNotEqual(told[0], "open")
        if is_plain(terms) and most >= 1 + cells * (len(terms.ward.posts) + 1):
            self.assertNotEqual(told[0], "open")
        return told


class Refusals(unittest.TestCase):
    def test_no_most(self):
        for terms in (Terms(WARD, []), Terms(WARD, [Want(0, 1, 3)]), Terms(NO_HANDS, [])):
            for most in (0, -1, -2000, 2001, 10 ** 30, -10 ** 30):
                with self.assertRaises(NoMost):
                    seek(terms, most)
                with self.assertRaises(WardError):
                    seek(terms, most)
            for most in (1, 2, 1999, 2000):
                self.assertIn(seek(terms, most)[0], ("rota", "none"))


class Small(Seeking):
    def test_rota(self):
        terms = Terms(WARD, [Want(0, 1, 1), Away(1, 0b01), Rest(0, 1), Apart(0, 1), Want(1, 2, 1)])
        self.assertEqual(self.look_over_all(terms, 2000)[0], "rota")
        one = Terms(WARD, [Least(0, 0b11, 2), Away(1, 0b01), Rest(0, 1), Hours(0, 20, 20), Beside(1, 0), Want(1, 1, 0)])
        self.assertEqual(self.look_over_all(one, 2000), ("rota", [[1, 2], [0, 0]]))

    def test_none_by_one_line(self):
        self.assertEqual(self.look_over_all(Terms(WARD, [Want(0, 1, 3)]), 1), ("none", [("sum", ((0, 0, 1),))]))
        self.assertEqual(self.look_over_all(Terms(WARD, [Rule(), Hours(0, 0, -1)]), 5), ("none", [("sum", ((1, 1, 1),))]))

    def test_none_by_a_shortage(self):
        told = self.look_over_all(Terms(ONE, [Away(0, 1), Want(0, 1, 1)]), 1)
        self.assertEqual(told, ("none", [("sum", ((0, 0, 1), (1, 0, 1)))]))

    def test_none_by_parting(self):
        # Wherever the first works, the second holds the same post; and on no day they do.
        terms = Terms(WARD, [Beside(0, 1), Apart(0, 1), Least(0, 0b11, 1)])
        told = self.look_over_all(terms, 2000)
        self.assertEqual(told[0], "none")
        self.assertGreater(len(told[1]), 1)
        many = len(told[1])
        self.assertEqual(self.look_over_all(terms, many), told)
        for most in range(1, many):
            self.assertEqual(self.look_over_all(terms, most), ("open", told[1][:most]))

    def test_a_table_that_is_found_late(self):
        # Two hours' sums that must just be met, with few tables that do.
        ward = Ward(2, [0, 0], [(0, 3, 0), (0, 5, 1)])
        for least in range(14):
            rules = [Hours(0, least, least), Apart(0, 1), Hours(1, 8, 8), Rest(1, 1)]
            told = self.look_over_all(Terms(ward, rules), 2000)
            self.assertNotEqual(told[0], "open")

    def test_without_hands(self):
        self.assertEqual(self.look_over_all(Terms(NO_HANDS, []), 1), ("rota", []))
        self.assertEqual(self.look_over_all(Terms(NO_HANDS, [Want(0, 1, 0), Near([], 0)]), 1), ("rota", []))
        self.assertEqual(self.look_over_all(Terms(NO_HANDS, [Want(2, 1, 1)]), 1)[0], "none")
        self.assertEqual(self.look_over_all(Terms(NO_HANDS, [Near([], -1)]), 1)[0], "none")
        self.assertEqual(self.look_over_all(Terms(Ward(1, [], []), [Rule()]), 1), ("rota", []))

    def test_without_posts(self):
        blank = [[0, 0], [0, 0]]
        rules = [Most(0, 3, 0), Off(0, 2), Apart(0, 1), Hours(1, 0, 0), Away(1, 3)]
        self.assertEqual(self.look_over_all(Terms(NO_POSTS, rules), 1), ("rota", blank))
        self.assertEqual(self.look_over_all(Terms(NO_POSTS, rules + [Least(0, 1, 1)]), 1)[0], "none")
        self.assertEqual(self.look_over_all(Terms(NO_POSTS, [Denied([(0, 0, 0, 1)], 0)]), 1)[0], "none")
        self.assertEqual(self.look_over_all(Terms(NO_POSTS, [Near(blank, 0)]), 1), ("rota", blank))

    def test_without_rules(self):
        self.assertEqual(self.look_over_all(Terms(WARD, []), 1)[0], "rota")

    def test_parts_that_count_for_nothing(self):
        # Hands and days that are not there, and a post that the hand can't hold, as a rule of one's own may tell them.
        class Odd(Rule):
            def lines(self, ward):
                return [(((0, 0, 1, 2), (5, 0, 0, 9), (-1, 0, 0, 9), (0, 7, 0, 9), (1, 1, 2, 9), (0, 1, 2, 1)), 3)]

        self.assertEqual(seek(Terms(WARD, [Odd(), Away(1, 3)]), 2000), ("rota", [[1, 2], [0, 0]]))
        told = seek(Terms(WARD, [Odd(), Away(0, 2)]), 2000)
        self.assertEqual((told[0], is_paper(Terms(WARD, [Odd(), Away(0, 2)]), told[1])), ("none", True))

    def test_prices(self):
        old = [[2, 2], [1, 1]]
        rules = [Rest(0, 1), Want(0, 2, 1), Want(1, 1, 2)]
        for many in range(5):
            told = self.look_over_all(Terms(WARD, rules + [Near(old, many)]), 2000)
            self.assertNotEqual(told[0], "open")
        near = Near([[0, 0], [0, 0]], 1)
        wishes = Denied([(0, 0, 0, 3), (1, 1, 0, 3)], 2)
        self.assertEqual(self.look_over_all(Terms(WARD, [near]), 1)[0], "rota")
        self.assertEqual(self.look_over_all(Terms(WARD, [wishes]), 1)[0], "rota")
        # Two prices are not looked at together by a shortage: it takes parting.
        self.assertEqual(self.look_over_all(Terms(WARD, [near, wishes]), 2000)[0], "none")


EASY = "wwwmMlhanrfrfABNDR"
TANGLED = "wmlllhhrfABBNN"


def random_rule(chance, ward, words):
    hand = chance.randrange(len(ward.hands))
    days = chance.randrange(2 ** ward.days)
    posts = len(ward.posts)
    word = chance.choice(words)
    if word == "w" and posts:
        return Want(chance.randrange(ward.days), chance.randint(1, posts), chance.randint(0, 2))
    if word in "AB" and len(ward.hands) > 1:
        other = chance.choice([other for other in range(len(ward.hands)) if other != hand])
        return Apart(hand, other) if word == "A" else Beside(hand, other)
    if word == "N":
        old = [[chance.randint(0, posts) for day in range(ward.days)] for row in ward.hands]
        return Near(old, chance.randint(0, 4))
    if word == "D":
        wish = (hand, chance.randrange(ward.days), chance.randint(0, posts), chance.randint(1, 3))
        return Denied([wish, (hand, 0, 0, 2)], chance.randint(0, 3))
    rules = {
        "m": Most(hand, ALL_DAYS, chance.randint(0, 2)), "M": Most(hand, days, chance.randint(0, 2)),
        "l": Least(hand, days, chance.randint(0, 2)), "h": Hours(hand, chance.randint(0, 12), chance.randint(4, 20)),
        "a": Away(hand, days), "n": Nights(hand, chance.randint(0, 2)), "r": Rest(hand, chance.randint(0, 2)),
        "f": Off(hand, chance.randint(0, 3)),
    }
    return rules.get(word, Rule())


def random_terms(chance, most_cells, words=EASY):
    hands = [chance.choice([0, 1, 2, 3, 3]) for hand in range(chance.randint(1, 3))]
    posts = [(chance.choice([0, 1, 2]), chance.randint(0, 9), chance.randint(0, 1)) for post in range(chance.randint(0, 2))]
    ward = Ward(chance.randint(1, most_cells // len(hands)), hands, posts)
    return Terms(ward, [random_rule(chance, ward, words) for rule in range(chance.randint(0, 9))])


class ByChance(Seeking):
    def test_small_wards(self):
        chance = random.Random(55)
        seen = {"rota": 0, "none": 0}
        for number in range(400):
            terms = random_terms(chance, 5)
            with self.subTest(number=number):
                # Far more than these wards need.
                told = self.look_over_all(terms, 2000)
                self.assertNotEqual(told[0], "open")
                seen[told[0]] += 1
        self.assertGreater(min(seen.values()), 100, seen)

    def test_each_most(self):
        chance = random.Random(56)
        opened = 0
        parted = 0
        for number in range(250):
            terms = random_terms(chance, 5, TANGLED)
            limit = (len(terms.ward.hands) * terms.ward.days + 1) * terms.ward.tables()
            with self.subTest(number=number):
                for most in (1, 2, 3, 5, min(limit, 2000)):
                    told = self.look_over_all(terms, most)
                    opened += told[0] == "open"
                    parted += told[0] == "none" and len(told[1]) > 1
        self.assertGreater(opened, 20)
        self.assertGreater(parted, 20)

    def test_the_same_again(self):
        chance = random.Random(5)
        asked = [(terms, 1 + number % 9) for number, terms in enumerate(random_terms(chance, 6) for again in range(60))]
        told = [seek(terms, most) for terms, most in asked]
        kept = copy.deepcopy(told)
        for word, things in told:
            for row in things:
                if word == "rota":
                    row.clear()
            things.clear()
        self.assertEqual([self.look(terms, most) for terms, most in reversed(asked)], kept[::-1])


class Plain(Seeking):
    def test_small_wards(self):
        chance = random.Random(52)
        seen = {"rota": 0, "none": 0}
        for number in range(400):
            terms = random_terms(chance, 6)
            ward = terms.ward
            priced = [rule for rule in terms.rules if rule.price(ward) is not None]
            terms = Terms(ward, [rule for rule in terms.rules if rule.plain(ward) is not None] + priced[:1])
            self.assertTrue(is_plain(terms))
            limit = 1 + len(ward.hands) * ward.days * (len(ward.posts) + 1)
            with self.subTest(number=number):
                told = self.look_over_all(terms, limit)
                seen[told[0]] += 1
                if told[0] == "none":
                    for most in (1, 2, 2000):
                        self.assertEqual(self.look(terms, most)[0], "none")
        self.assertGreater(min(seen.values()), 40, seen)


class Large(Seeking):
    WARD = Ward(31, [0b111111] * 8, [(1 << post, 8 + post, post % 2) for post in range(6)])
    LIMIT = 1 + 248 * 7

    def wants(self, many):
        return [Want(day, post, 1) for day in range(31) for post in range(1, many + 1)]

    def test_plain_terms_that_are_met(self):
        mosts = [Most(hand, ALL_DAYS, 12) for hand in range(7)] + [Most(7, ALL_DAYS, 9)]
        self.assertEqual(self.look(Terms(self.WARD, self.wants(3) + mosts), self.LIMIT)[0], "rota")
        full = [Want(day, post, many) for day in range(20) for post, many in ((1, 2), (2, 1), (3, 1), (4, 1), (5, 1), (6, 2))]
        self.assertEqual(self.look(Terms(self.WARD, full), self.LIMIT)[0], "rota")

    def test_plain_terms_that_no_table_meets(self):
        mosts = [Most(hand, ALL_DAYS, 12) for hand in range(7)] + [Most(7, ALL_DAYS, 8)]
        for most in (1, self.LIMIT, 2000):
            self.assertEqual(self.look(Terms(self.WARD, self.wants(3) + mosts), most)[0], "none")
        aways = [Away(hand, 0b10 << hand) for hand in range(8)] + [Away(hand, 0b100) for hand in range(6)]
        self.assertEqual(self.look(Terms(self.WARD, self.wants(3) + aways), 1)[0], "none")

    def test_plain_terms_with_a_price(self):
        old = [[1 + (hand + day) % 6 if hand < 5 else 0 for day in range(31)] for hand in range(8)]
        held = sum(1 + (hand + day) % 6 <= 3 for hand in range(5) for day in range(31))
        # Who holds a post that is wanted stays; others come to what is left of the 93 seats.
        for many, word in ((93 - held, "rota"), (93 - held - 1, "none")):
            self.assertEqual(self.look(Terms(self.WARD, self.wants(3) + [Near(old, many)]), self.LIMIT)[0], word)
        # And five hands work on six days more than they may: of these days they are off.
        mosts = [Most(hand, ALL_DAYS, 25) for hand in range(8)]
        self.assertEqual(self.look(Terms(self.WARD, self.wants(3) + mosts + [Near(old, 29)]), self.LIMIT)[0], "none")
        self.assertEqual(self.look(Terms(self.WARD, self.wants(3) + mosts + [Near(old, 130)]), self.LIMIT)[0], "rota")

    def test_wishes_of_great_weight(self):
        wishes = [(hand, day, post, 10 ** 9) for hand in range(5) for day in range(3) for post in (0, 1)]
        aways = [Away(5, 0b111), Away(6, 0b111), Away(7, 0b111)]
        wants = [Want(day, 1, 4) for day in range(31)]
        for most, word in ((12 * 10 ** 9, "rota"), (12 * 10 ** 9 - 1, "none")):
            self.assertEqual(self.look(Terms(self.WARD, wants + aways + [Denied(wishes, most)]), self.LIMIT)[0], word)

    def test_a_whole_month_with_turns(self):
        rules = self.wants(2)[:60] + [Rest(hand, 1) for hand in range(8)] + [Nights(hand, 3) for hand in range(8)]
        rules += [Off(hand, 2) for hand in range(8)] + [Apart(0, 1), Beside(2, 3), Hours(4, 60, 90), Least(5, 0xFF, 2)]
        self.assertEqual(self.look(Terms(self.WARD, rules), 2000)[0], "rota")

    def test_much_that_is_left_open(self):
        # Each hand's hours must come to a number that no posts come to; no line sees it but with all days pinned.
        ward = Ward(31, [0] * 8, [(0, 6, 0), (0, 10, 1), (0, 14, 0)])
        rules = [Hours(hand, 101, 101) for hand in range(8)] + [Off(hand, 31) for hand in range(8)]
        told = self.look(Terms(ward, rules), 2000)
        self.assertEqual(told[0], "open")
        for most in (1, 77):
            self.assertEqual(self.look(Terms(ward, rules), most), ("open", told[1][:most]))


if __name__ == "__main__":
    unittest.main()
