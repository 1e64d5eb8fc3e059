"""Clashes, as they are told and as they are looked at (points 2, 6, 61, 62 and 63)."""

import copy
import itertools
import random
import unittest

from rotaward.clashes import clash, is_clash
from rotaward.costly import Denied, Near
from rotaward.errors import NoMost
from rotaward.pairs import Apart, Beside
from rotaward.papers import is_paper
from rotaward.plain import is_plain
from rotaward.rules import Away, Hours, Least, Most, Rule, Want
from rotaward.seeker import seek
from rotaward.terms import Terms
from rotaward.turns import Nights, Off, Rest
from rotaward.wards import Ward

# The first hand can hold both posts, the second the first alone.
WARD = Ward(2, [0b11, 0b01], [(0b01, 8, 0), (0b10, 12, 1)])
NO_HANDS = Ward(3, [], [(0, 8, 0)])
ALL_DAYS = 2 ** 31 - 1

# No table keeps rules 1, 3 and 4 together; of no others nor of fewer of them this is so.
RULES = [Want(1, 1, 1), Want(0, 1, 2), Rest(0, 1), Most(0, ALL_DAYS, 1), Least(0, 0b10, 1), Rule()]
TERMS = Terms(WARD, RULES)
MET = Terms(WARD, RULES[:4])
# Its paper, by their places; and tables that break the first, the second, the third of them alone.
PAPER = [("sum", ((0, 0, 1), (1, 0, 1), (2, 0, 1)))]
ROTAS = [[[0, 1], [1, 0]], [[1, 2], [1, 1]], [[1, 0], [1, 1]]]
TOLD = ("clash", [1, 3, 4], PAPER, ROTAS)


def tables(ward):
    rows = [itertools.product(ward.choices(hand), repeat=ward.days) for hand in range(len(ward.hands))]
    return [[list(row) for row in rota] for rota in itertools.product(*rows)]


def came_to(rota, parts):
    return sum(number for hand, day, post, number in parts if rota[hand][day] == post)


def is_rota(ward, rota):
    if [len(row) for row in rota] != [ward.days] * len(ward.hands):
        return False
    return all(type(value) is int and value in ward.choices(hand) for hand, row in enumerate(rota) for value in row)


def keeps(terms, numbers, rota):
    lines = [line for number in numbers for line in terms.rules[number].lines(terms.ward)]
    return all(came_to(rota, parts) >= bound for parts, bound in lines)


class Clashing(unittest.TestCase):
    def look(self, terms, most):
        """What is told, after a look at all that is promised of it."""
        before = (terms.rules, copy.deepcopy(terms.sums))
        told = clash(terms, most)
        self.assertEqual((terms.rules, terms.sums), before)
        self.assertIs(type(told), tuple)
        if told[0] == "open":
            self.assertEqual(told, ("open",))
            self.assertIs(is_clash(terms, told), False)
            return told
        if told[0] == "rota":
            self.assertEqual(len(told), 2)
            self.assertTrue(is_rota(terms.ward, told[1]))
            self.assertTrue(keeps(terms, range(len(terms.rules)), told[1]))
        else:
            self.need_clash(terms, told, most)
        kept = copy.deepcopy(told)
        self.assertIs(is_clash(terms, told), True)
        self.assertEqual(told, kept)
        return told

    def need_clash(self, terms, told, most):
        word, numbers, paper, rotas = told
        self.assertEqual(word, "clash")
        self.assertEqual([type(thing) for thing in (numbers, paper, rotas)], [list, list, list])
        self.assertEqual(numbers, sorted(set(numbers)))
        self.assertLessEqual(set(numbers), set(range(len(terms.rules))))
        self.assertTrue(all(type(number) is int for number in numbers))
        chosen = Terms(terms.ward, [terms.rules[number] for number in numbers])
        self.assertTrue(is_paper(chosen, paper))
        self.assertLessEqual(len(paper), most)
        if is_plain(terms):
            self.assertEqual(len(paper), 1)
        self.assertEqual(len(rotas), len(numbers))
        for number, rota in zip(numbers, rotas):
            self.assertIs(type(rota), list)
            self.assertTrue(is_rota(terms.ward, rota))
            self.assertTrue(keeps(terms, [other for other in numbers if other != number], rota), number)

    def look_over_all(self, terms, most):
        """The same, and that no table keeps all rules of the set, or one all."""
        told = self.look(terms, most)
        if told[0] != "open":
            numbers = told[1] if told[0] == "clash" else range(len(terms.rules))
            there = any(keeps(terms, numbers, rota) for rota in tables(terms.ward))
            self.assertEqual(there, told[0] == "rota")
        return told


class Telling(Clashing):
    def test_rota(self):
        self.assertEqual(self.look_over_all(MET, 2000)[0], "rota")
        self.assertEqual(self.look_over_all(Terms(WARD, []), 1)[0], "rota")
        self.assertEqual(self.look_over_all(Terms(NO_HANDS, [Want(0, 1, 0)]), 1), ("rota", []))

    def test_one_rule(self):
        terms = Terms(WARD, [Want(0, 1, 1), Want(0, 1, 3), Away(0, 1)])
        told = self.look_over_all(terms, 1)
        self.assertEqual(told[:3], ("clash", [1], [("sum", ((0, 0, 1),))]))
        told = self.look_over_all(Terms(NO_HANDS, [Rule(), Want(1, 1, 1)]), 1)
        self.assertEqual(told, ("clash", [1], [("sum", ((0, 0, 1),))], [[]]))

    def test_several(self):
        told = self.look_over_all(TERMS, 2000)
        self.assertEqual(told[1], [1, 3, 4])
        # The set is the only one, wherever its rules stand.
        for order in itertools.permutations(range(6)):
            terms = Terms(WARD, [RULES[number] for number in order])
            self.assertEqual([order[number] for number in self.look(terms, 2000)[1]], [n for n in order if n in (1, 3, 4)])

    def test_one_of_several_sets(self):
        terms = Terms(WARD, [Want(0, 1, 2), Away(0, 1), Away(1, 1), Want(1, 2, 2), Most(0, 3, 0), Want(0, 2, 1)])
        told = self.look_over_all(terms, 2000)
        self.assertIn(told[1], ([0, 1], [0, 2], [3], [0, 4], [0, 5], [4, 5], [1, 5]))

    def test_the_same_rule_twice(self):
        terms = Terms(WARD, [Want(0, 1, 2), Want(0, 1, 2), Away(1, 1), Away(1, 0b11)])
        told = self.look_over_all(terms, 1)
        self.assertEqual(len(told[1]), 2)

    def test_by_parting(self):
        terms = Terms(WARD, [Want(1, 1, 0), Beside(0, 1), Rest(0, 1), Apart(0, 1), Rule(), Least(0, 0b11, 1), Away(1, 0)])
        told = self.look_over_all(terms, 2000)
        self.assertEqual(told[1], [1, 3, 5])
        self.assertGreater(len(told[2]), 1)

    def test_prices(self):
        old = [[0, 0], [0, 0]]
        rules = [Want(0, 1, 1), Near(old, 1), Want(1, 1, 1), Away(1, 1)]
        self.assertEqual(self.look_over_all(Terms(WARD, rules), 1)[1], [0, 1, 2])
        wishes = Denied([(0, 0, 0, 3), (1, 1, 0, 3)], 2)
        self.assertEqual(self.look_over_all(Terms(WARD, [Rule(), wishes, Near(old, 1)]), 2000)[1], [1, 2])

    def test_no_most(self):
        for terms in (MET, TERMS, Terms(NO_HANDS, [])):
            for most in (0, -1, 2001, 10 ** 30):
                with self.assertRaises(NoMost):
                    clash(terms, most)

    def test_open(self):
        terms = Terms(WARD, [Beside(0, 1), Apart(0, 1), Least(0, 0b11, 1)])
        self.assertEqual(self.look(terms, 1), ("open",))
        self.assertEqual(self.look(terms, (4 + 1) * WARD.tables())[0], "clash")


def random_rule(chance, ward, words):
    hand = chance.randrange(len(ward.hands))
    days = chance.randrange(2 ** ward.days)
    word = chance.choice(words)
    if word == "w" and ward.posts:
        return Want(chance.randrange(ward.days), chance.randint(1, len(ward.posts)), chance.randint(0, 2))
    if word in "AB" and len(ward.hands) > 1:
        other = chance.choice([other for other in range(len(ward.hands)) if other != hand])
        return Apart(hand, other) if word == "A" else Beside(hand, other)
    if word == "N":
        return Near([[chance.randint(0, len(ward.posts)) for day in range(ward.days)] for row in ward.hands], 2)
    rules = {
        "m": Most(hand, ALL_DAYS, chance.randint(0, 2)), "l": Least(hand, days, chance.randint(0, 2)),
        "h": Hours(hand, chance.randint(0, 12), chance.randint(4, 20)), "a": Away(hand, days),
        "n": Nights(hand, chance.randint(0, 2)), "r": Rest(hand, chance.randint(0, 2)), "f": Off(hand, 2),
    }
    return rules.get(word, Rule())


def random_terms(chance, most_cells, words):
    hands = [chance.choice([0, 1, 2, 3, 3]) for hand in range(chance.randint(1, 3))]
    posts = [(chance.choice([0, 1, 2]), chance.randint(0, 9), chance.randint(0, 1)) for post in range(chance.randint(0, 2))]
    ward = Ward(chance.randint(1, most_cells // len(hands)), hands, posts)
    terms = Terms(ward, [random_rule(chance, ward, words) for rule in range(chance.randint(1, 14))])
    if chance.random() < 0.2:
        return terms
    # Mostly without rules that no table keeps, as else nearly all clashes were of these.
    alone = [any(keeps(terms, [number], rota) for rota in tables(ward)) for number in range(len(terms.rules))]
    return Terms(ward, [rule for rule, there in zip(terms.rules, alone) if there])


class ByChance(Clashing):
    def test_small_wards(self):
        chance = random.Random(61)
        sizes = {}
        for number in range(300):
            terms = random_terms(chance, 5, "wwwwmlhanrfABN")
            with self.subTest(number=number):
                told = self.look_over_all(terms, 2000)
                self.assertNotEqual(told[0], "open")
                size = len(told[1]) if told[0] == "clash" else 0
                sizes[size] = sizes.get(size, 0) + 1
        self.assertGreater(min(sizes.get(size, 0) for size in range(4)), 5, sizes)

    def test_few_cases(self):
        chance = random.Random(62)
        opened = 0
        for number in range(200):
            terms = random_terms(chance, 4, "wmlllhhrfABBNN")
            limit = (len(terms.ward.hands) * terms.ward.days + 1) * terms.ward.tables()
            with self.subTest(number=number):
                for most in (1, 2, 4):
                    told = self.look_over_all(terms, most)
                    opened += told == ("open",)
                    if seek(terms, most)[0] == "rota":
                        self.assertEqual(told[0], "rota")
                self.assertNotEqual(self.look_over_all(terms, min(limit, 2000)), ("open",))
        self.assertGreater(opened, 20)

    def test_plain_terms(self):
        chance = random.Random(63)
        clashes = 0
        for number in range(150):
            terms = random_terms(chance, 6, "wwwmaaa")
            limit = 1 + len(terms.ward.hands) * terms.ward.days * (len(terms.ward.posts) + 1)
            with self.subTest(number=number):
                told = self.look_over_all(Terms(terms.ward, [rule for rule in terms.rules if rule.told()]), limit)
                self.assertNotEqual(told, ("open",))
                clashes += told[0] == "clash"
        self.assertGreater(clashes, 30)

    def test_what_is_given_is_the_askers_own(self):
        chance = random.Random(2)
        asked = [random_terms(chance, 5, "wwwwmlhanrfABN") for number in range(40)]
        told = [clash(terms, 2000) for terms in asked]
        kept = copy.deepcopy(told)
        for answer in told:
            for thing in answer[1:]:
                for row in thing:
                    if isinstance(row, list):
                        row.clear()
                thing.clear()
        self.assertEqual([self.look(terms, 2000) for terms in reversed(asked)], kept[::-1])


class Large(Clashing):
    def test_a_whole_month(self):
        ward = Ward(31, [0b111] * 8, [(1 << post, 8, post % 2) for post in range(3)])
        wants = [Want(day, post, 1) for day in range(15) for post in range(1, 4)]
        mosts = [Most(hand, ALL_DAYS, 6) for hand in range(7)] + [Most(7, ALL_DAYS, 2)]
        told = self.look(Terms(ward, wants + mosts), 1)
        self.assertEqual(told[1], list(range(53)))
        told = self.look(Terms(ward, wants + mosts[:7] + [Rest(hand, 1) for hand in range(8)]), 2000)
        self.assertEqual(told[0], "rota")
        aways = [Away(hand, 0b100) for hand in range(6)]
        told = self.look(Terms(ward, wants + aways + [Rest(hand, 2) for hand in range(8)]), 2000)
        self.assertEqual(told[1], [6, 7, 8] + list(range(45, 51)))


class Looking(unittest.TestCase):
    def right(self, told, terms=TERMS):
        before = copy.deepcopy(told)
        answer = is_clash(terms, told)
        self.assertIs(type(answer), bool)
        self.assertEqual(told, before)
        return answer

    def test_a_right_one(self):
        self.assertTrue(self.right(TOLD))

    def test_other_right_ones(self):
        # The same line twice in the paper, a paper that parts, other tables.
        self.assertTrue(self.right(("clash", [1, 3, 4], [("sum", ((0, 0, 1), (1, 0, 1), (2, 0, 1)) * 2)], ROTAS)))
        parting = [("part", 0, 1), ("sum", ((2, 0, 1),))] + PAPER * 2
        self.assertTrue(self.right(("clash", [1, 3, 4], parting, ROTAS)))
        self.assertTrue(self.right(("clash", [1, 3, 4], PAPER, [[[0, 2], [0, 0]]] + ROTAS[1:])))

    def test_rota(self):
        for rota in tables(WARD):
            self.assertEqual(self.right(("rota", rota), MET), keeps(MET, range(4), rota))
            self.assertFalse(self.right(("rota", rota)))
        for rota in ([], [[1, 0]], [[1, 0], [1]], [[1, 0], [2, 1]], [[1, 0], [1, 1], [0, 0]], [[1, 0], [1, 3]],
                     [[1, 0], [-1, 1]]):
            self.assertFalse(self.right(("rota", rota), MET), rota)
        self.assertTrue(self.right(("rota", [[1, 0], [1, 1]]), MET))
        self.assertTrue(self.right(("rota", []), Terms(NO_HANDS, [])))
        self.assertFalse(self.right(("rota", []), Terms(NO_HANDS, [Want(0, 1, 1)])))

    def test_open(self):
        self.assertFalse(self.right(("open",)))
        self.assertFalse(self.right(("open",), MET))

    def test_numbers(self):
        for numbers in ([3, 1, 4], [1, 4, 3], [1, 1, 3], [1, 3, 3], [1, 3, 6], [1, 3, 10 ** 30], [-5, 3, 4], [-1, 3, 4],
                        [1, -3, 4], [1, 3, -2], [0, 3, 4], [1, 2, 4], [1, 3, 5], []):
            self.assertFalse(self.right(("clash", numbers, PAPER, ROTAS)), numbers)

    def test_too_few_and_too_many_rules(self):
        for numbers, rotas in (([1, 3], ROTAS[:2]), ([1], ROTAS[:1]), ([], []), ([1, 3, 4, 5], ROTAS + [[[0, 0], [0, 0]]])):
            self.assertFalse(self.right(("clash", numbers, PAPER, rotas)), numbers)
        # A rule that can be left out: no table keeps the three others, whatever is told.
        for rota in tables(WARD):
            self.assertFalse(self.right(("clash", [1, 3, 4, 5], PAPER, ROTAS + [rota])))

    def test_paper(self):
        for paper in ([], [("sum", ())], [("sum", ((0, 0, 1), (1, 0, 1)))], PAPER * 2, [("part", 0, 0)] + PAPER,
                      [("part", 0, 2)] + PAPER, [("end",)], [("sum", ((1, 0, 1), (3, 0, 1), (4, 0, 1)))],
                      [("sum", ((0, 0, 1), (1, 0, 1), (2, 0, 0)))], [("sum", ((0, 1, 1), (1, 0, 1), (2, 0, 1)))]):
            self.assertFalse(self.right(("clash", [1, 3, 4], paper, ROTAS)), paper)

    def test_a_paper_that_is_right_over_all_rules_alone(self):
        paper = [("sum", ((1, 0, 1), (3, 0, 1), (4, 0, 1)))]
        self.assertTrue(is_paper(TERMS, paper))
        self.assertFalse(self.right(("clash", [1, 3, 4], paper, ROTAS)))

    def test_how_many_tables(self):
        for rotas in ([], ROTAS[:2], ROTAS[1:], ROTAS + ROTAS[:1], ROTAS + [[]], ROTAS * 2):
            self.assertFalse(self.right(("clash", [1, 3, 4], PAPER, rotas)), rotas)

    def test_tables_at_other_places(self):
        for order in itertools.permutations(range(3)):
            told = ("clash", [1, 3, 4], PAPER, [ROTAS[place] for place in order])
            self.assertEqual(self.right(told), list(order) == [0, 1, 2])

    def test_each_table_at_each_place(self):
        for place in range(3):
            others = [number for number in (1, 3, 4) if number != (1, 3, 4)[place]]
            for rota in tables(WARD):
                rotas = ROTAS[:place] + [rota] + ROTAS[place + 1:]
                self.assertEqual(self.right(("clash", [1, 3, 4], PAPER, rotas)), keeps(TERMS, others, rota))

    def test_what_is_no_table(self):
        for place in range(3):
            good = ROTAS[place]
            for rota in ([], [[]], good[:1], good + [[0, 0]], [good[0], good[1][:1]], [good[0] + [0], good[1]],
                         [good[0], [2, 2]], [[-1, 0], good[1]], [[3, 3], good[1]]):
                rotas = ROTAS[:place] + [rota] + ROTAS[place + 1:]
                self.assertFalse(self.right(("clash", [1, 3, 4], PAPER, rotas)), rota)

    def test_of_other_terms(self):
        self.assertFalse(self.right(TOLD, MET))
        self.assertFalse(self.right(TOLD, Terms(WARD, [])))
        self.assertTrue(self.right(TOLD, Terms(WARD, [Rule()] + RULES[1:])))
        self.assertFalse(self.right(TOLD, Terms(WARD, [RULES[1], RULES[0]] + RULES[2:])))


if __name__ == "__main__":
    unittest.main()
