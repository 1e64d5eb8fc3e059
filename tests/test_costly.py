"""The rules with a price: lines, prices, bounds (points 2 and 51)."""

import copy
import itertools
import random
import unittest

from rotaward.costly import Denied, Near, denied
from rotaward.errors import NoRule
from rotaward.lines import kept
from rotaward.pairs import Apart, Beside
from rotaward.rules import Away, Hours, Least, Most, Rule, Want
from rotaward.terms import Terms
from rotaward.turns import Nights, Off, Rest
from rotaward.wards import Ward

# The first hand can hold both posts, the second the first alone.
WARD = Ward(2, [0b11, 0b01], [(0b01, 8, 0), (0b10, 12, 1)])
LONG = Ward(31, [0b11] * 8, [(0b01, 8, 0)] * 6)
NO_HANDS = Ward(3, [], [(0, 8, 0)])
NO_POSTS = Ward(2, [1, 2], [])

# A cell that is off, one at each post, and one at a post that its hand can't hold.
OLD = [[0, 2], [1, 2]]
# Two of one cell and unlike values, two of one value, one that no table denies, one to work and one to be off.
WISHES = [(0, 0, 1, 5), (0, 0, 0, 7), (1, 1, 1, 3), (1, 1, 1, 4), (1, 0, 2, 100), (0, 1, 2, 1)]


def tables(ward):
    rows = [itertools.product(ward.choices(hand), repeat=ward.days) for hand in range(len(ward.hands))]
    return [[list(row) for row in rota] for rota in itertools.product(*rows)]


def came_to(rota, parts):
    return sum(number for hand, day, post, number in parts if rota[hand][day] == post)


def cells_of(ward):
    return [(hand, day) for hand in range(len(ward.hands)) for day in range(ward.days)]


def numbers_at(ward, line, cell):
    """What the line's numbers come to for each value of the cell."""
    return [
        sum(number for hand, day, post, number in line[0] if (hand, day, post) == (*cell, value))
        for value in ward.choices(cell[0])
    ]


def unlike(old, rota):
    return sum(value != other for row, others in zip(old, rota) for value, other in zip(row, others))


def weighed(wishes, rota):
    return sum(weight for hand, day, post, weight in wishes if rota[hand][day] == post)


def random_old(chance, ward):
    return [[chance.randint(0, len(ward.posts)) for day in range(ward.days)] for hand in ward.hands]


def random_wishes(chance, ward, many):
    told = []
    for number in range(many):
        hand, day = chance.choice(cells_of(ward))
        told.append((hand, day, chance.randint(0, len(ward.posts)), chance.randint(1, 9)))
    return told


def random_ward(chance):
    posts = [(chance.choice([0, 1, 2]), chance.randint(0, 9), chance.randint(0, 1)) for post in range(chance.randint(0, 2))]
    return Ward(chance.randint(1, 2), [chance.randrange(4) for hand in range(chance.randint(1, 2))], posts)


class Pricing(unittest.TestCase):
    """What holds of every rule with a price."""

    def look_at(self, ward, rule, measure, most):
        self.assertIsInstance(rule, Rule)
        self.assertIs(rule.fits(ward), True)
        lines = rule.lines(ward)
        self.assertIsInstance(lines, list)
        self.assertEqual(len(lines), 1)
        costs, bound = rule.price(ward)
        self.assertIsInstance(rule.price(ward), tuple)
        self.assertEqual(bound, most)
        for key, cost in costs.items():
            self.assertIs(type(cost), int)
            self.assertGreaterEqual(cost, 1)
            self.assertIn(key[:2], cells_of(ward))
            self.assertIn(key[2], range(len(ward.posts) + 1))
        for cell in cells_of(ward):
            values = ward.choices(cell[0])
            both = [
                number + costs.get((*cell, value), 0) for number, value in zip(numbers_at(ward, lines[0], cell), values)
            ]
            self.assertEqual(len(set(both)), 1, (cell, both))
        for rota in tables(ward):
            paid = sum(costs.get((hand, day, rota[hand][day]), 0) for hand, day in cells_of(ward))
            self.assertEqual(paid, measure(rota))
            self.assertEqual(kept(rota, lines[0]), measure(rota) <= most, (rota, most))
        self.assertIsNone(rule.plain(ward))
        self.assertEqual(rule.told(), "")

    def test_near(self):
        for many in range(-1, 6):
            with self.subTest(many=many):
                self.look_at(WARD, Near(OLD, many), lambda rota: unlike(OLD, rota), many)

    def test_denied(self):
        for most in [-1, 0, 1, 4, 5, 6, 7, 8, 11, 12, 13, 14, 15, 20, 10 ** 12]:
            with self.subTest(most=most):
                self.look_at(WARD, Denied(WISHES, most), lambda rota: weighed(WISHES, rota), most)

    def test_by_chance(self):
        chance = random.Random(51)
        for number in range(150):
            ward = random_ward(chance)
            old = random_old(chance, ward)
            wishes = random_wishes(chance, ward, chance.randint(0, 8))
            with self.subTest(number=number):
                self.look_at(ward, Near(old, number % 7 - 1), lambda rota: unlike(old, rota), number % 7 - 1)
                self.look_at(ward, Denied(wishes, number % 30 - 1), lambda rota: weighed(wishes, rota), number % 30 - 1)

    def test_without_hands_and_without_posts(self):
        self.look_at(NO_HANDS, Near([], 0), lambda rota: 0, 0)
        self.look_at(NO_HANDS, Near([], -1), lambda rota: 0, -1)
        self.look_at(NO_HANDS, Denied([], -1), lambda rota: 0, -1)
        self.look_at(NO_POSTS, Near([[0, 0], [0, 0]], 0), lambda rota: 0, 0)
        self.look_at(NO_POSTS, Denied([(0, 1, 0, 6)], 5), lambda rota: 6, 5)
        self.look_at(NO_POSTS, Denied([(0, 1, 0, 6)], 6), lambda rota: 6, 6)

    def test_the_rules_of_stage_2_have_none(self):
        rules = [Rule(), Want(0, 1, 1), Most(0, 3, 1), Least(0, 3, 1), Hours(0, 0, 9), Away(0, 3), Nights(0, 1),
                 Rest(0, 1), Off(0, 1), Apart(0, 1), Beside(0, 1)]
        self.assertEqual([rule.price(WARD) for rule in rules], [None] * len(rules))


class Nearness(unittest.TestCase):
    def test_line(self):
        line = Near(OLD, 2).lines(WARD)[0]
        # Three cells work in old.
        self.assertEqual(line[1], 1)
        self.assertEqual(numbers_at(WARD, line, (0, 0)), [0, -1, -1])
        self.assertEqual(numbers_at(WARD, line, (0, 1)), [0, 0, 1])
        self.assertEqual(numbers_at(WARD, line, (1, 0)), [0, 1])
        self.assertEqual(numbers_at(WARD, line, (1, 1)), [0, 0])
        for rota in tables(WARD):
            works = sum(rota[0][0] == post for post in (1, 2))
            self.assertEqual(came_to(rota, line[0]), (rota[0][1] == 2) + (rota[1][0] == 1) - works)

    def test_bounds_of_the_line(self):
        self.assertEqual([Near(OLD, many).lines(WARD)[0][1] for many in (-1, 0, 3, 999)], [4, 3, 0, -996])
        self.assertEqual(Near([[0, 0], [0, 0]], 1).lines(WARD)[0][1], -1)
        self.assertEqual(Near([[1, 1], [2, 2]], 1).lines(WARD)[0][1], 3)

    def test_price(self):
        costs, most = Near(OLD, 3).price(WARD)
        self.assertEqual(most, 3)
        told = {cell: [costs.get((*cell, value), 0) for value in WARD.choices(cell[0])] for cell in cells_of(WARD)}
        self.assertEqual(told, {(0, 0): [0, 1, 1], (0, 1): [1, 1, 0], (1, 0): [1, 0], (1, 1): [1, 1]})

    def test_many(self):
        self.assertEqual(
            [Near(OLD, many).fits(WARD) for many in (-10 ** 30, -2, -1, 0, 999, 1000, 10 ** 30)],
            [False, False, True, True, True, False, False],
        )

    def test_old(self):
        for old in ([[0, 0], [0, 0]], [[2, 2], [2, 2]], [[0, 1], [2, 0]]):
            self.assertTrue(Near(old, 0).fits(WARD), old)
        for old in ([], [[0, 0]], [[0, 0], [0, 0], [0, 0]], [[0, 0], [0]], [[0], [0, 0]], [[0, 0], [0, 0, 0]],
                    [[0, 0, 0], [0, 0]], [[0, 0], []], [[0, 3], [0, 0]], [[0, 0], [-1, 0]], [[0, 0], [0, 10 ** 30]]):
            self.assertIs(Near(old, 0).fits(WARD), False, old)
        self.assertTrue(Near([], 0).fits(NO_HANDS))
        self.assertFalse(Near([[0, 0, 0]], 0).fits(NO_HANDS))
        self.assertTrue(Near([[0, 0], [0, 0]], 0).fits(NO_POSTS))
        self.assertFalse(Near([[0, 1], [0, 0]], 0).fits(NO_POSTS))
        self.assertTrue(Near([[6] * 31] * 8, 0).fits(LONG))
        self.assertFalse(Near([[6] * 31] * 7 + [[6] * 30 + [7]], 0).fits(LONG))

    def test_terms_refuse_what_does_not_fit(self):
        with self.assertRaises(NoRule) as caught:
            Terms(WARD, [Near(OLD, 999), Near(OLD, 1000)])
        self.assertEqual(caught.exception.number, 1)

    def test_of_several_wards(self):
        rule = Near(OLD, 1)
        other = Ward(2, [0, 0], [(0, 8, 0)] * 3)
        before = rule.lines(WARD)
        self.assertTrue(rule.fits(other))
        self.assertEqual(numbers_at(other, rule.lines(other)[0], (0, 0)), [0, -1, -1, -1])
        self.assertEqual(rule.price(other)[0][(0, 0, 3)], 1)
        self.assertFalse(rule.fits(LONG))
        self.assertEqual(rule.lines(WARD), before)


class Denying(unittest.TestCase):
    def test_line(self):
        line = Denied(WISHES, 2).lines(WARD)[0]
        self.assertEqual(line[1], 5)
        self.assertEqual(numbers_at(WARD, line, (0, 0)), [0, 2, 7])
        self.assertEqual(numbers_at(WARD, line, (0, 1)), [0, 0, -1])
        self.assertEqual(numbers_at(WARD, line, (1, 0)), [0, 0])
        self.assertEqual(numbers_at(WARD, line, (1, 1)), [0, -7])

    def test_bounds_of_the_line(self):
        self.assertEqual([Denied(WISHES, most).lines(WARD)[0][1] for most in (-1, 0, 7, 10 ** 12)], [8, 7, 0, 7 - 10 ** 12])
        self.assertEqual(Denied([], 4).lines(WARD)[0][1], -4)
        self.assertEqual(Denied([(0, 0, 0, 2), (0, 0, 0, 3), (0, 0, 1, 50)], 1).lines(WARD)[0][1], 4)

    def test_price(self):
        costs, most = Denied(WISHES, 3).price(WARD)
        self.assertEqual(most, 3)
        told = {cell: [costs.get((*cell, value), 0) for value in WARD.choices(cell[0])] for cell in cells_of(WARD)}
        self.assertEqual(told, {(0, 0): [7, 5, 0], (0, 1): [0, 0, 1], (1, 0): [0, 0], (1, 1): [0, 7]})
        self.assertEqual(Denied([], 0).price(WARD), ({}, 0))

    def test_most(self):
        self.assertEqual(
            [Denied(WISHES, most).fits(WARD) for most in (-10 ** 30, -2, -1, 0, 10 ** 12, 10 ** 12 + 1)],
            [False, False, True, True, True, False],
        )

    def test_wishes(self):
        for wish in ((0, 0, 0, 1), (1, 1, 2, 10 ** 9), (1, 0, 2, 1), (0, 1, 1, 10 ** 9)):
            self.assertTrue(Denied([wish], 0).fits(WARD), wish)
        for wish in ((-1, 0, 0, 1), (2, 0, 0, 1), (0, -1, 0, 1), (0, 2, 0, 1), (0, 0, -1, 1), (0, 0, 3, 1),
                     (0, 0, 0, 0), (0, 0, 0, -1), (0, 0, 1, 10 ** 9 + 1)):
            self.assertIs(Denied([wish], 0).fits(WARD), False, wish)
            self.assertFalse(Denied(WISHES + [wish], 0).fits(WARD), wish)
            self.assertFalse(Denied([wish] + WISHES, 0).fits(WARD), wish)
        self.assertTrue(Denied([], 0).fits(NO_HANDS))
        self.assertFalse(Denied([(0, 0, 0, 1)], 0).fits(NO_HANDS))
        self.assertFalse(Denied([(0, 0, 1, 1)], 0).fits(NO_POSTS))

    def test_thirty_of_them(self):
        wishes = random_wishes(random.Random(30), WARD, 30)
        weights = sorted({weighed(wishes, rota) for rota in tables(WARD)})
        most = weights[len(weights) // 2]
        rule = Denied(wishes, most)
        self.assertTrue(rule.fits(WARD))
        for rota in tables(WARD):
            self.assertEqual(kept(rota, rule.lines(WARD)[0]), weighed(wishes, rota) <= most)

    def test_great_weights(self):
        rule = Denied([(0, 0, 1, 10 ** 9)] * 30, 3 * 10 ** 10 - 1)
        self.assertFalse(kept([[1, 0], [0, 0]], rule.lines(WARD)[0]))
        self.assertTrue(kept([[2, 0], [0, 0]], rule.lines(WARD)[0]))
        self.assertEqual(rule.price(WARD)[0], {(0, 0, 1): 3 * 10 ** 10})

    def test_denied(self):
        self.assertEqual(denied(WISHES, [[0, 0], [0, 0]]), 7)
        self.assertEqual(denied(WISHES, [[1, 2], [0, 1]]), 13)
        self.assertEqual(denied(WISHES, [[2, 1], [1, 0]]), 0)
        self.assertEqual(denied([], [[2, 1], [1, 0]]), 0)
        self.assertEqual(denied([], []), 0)
        self.assertIs(type(denied([], [])), int)
        for rota in tables(WARD):
            self.assertEqual(denied(WISHES, rota), weighed(WISHES, rota))

    def test_terms_refuse_what_does_not_fit(self):
        with self.assertRaises(NoRule) as caught:
            Terms(WARD, [Want(0, 1, 1), Denied([(0, 0, 3, 1)], 0)])
        self.assertEqual(caught.exception.number, 1)


class Own(unittest.TestCase):
    def test_what_is_handed_in_stays_and_is_not_kept(self):
        old = copy.deepcopy(OLD)
        wishes = list(WISHES)
        near = Near(old, 1)
        pleased = Denied(wishes, 9)
        terms = Terms(WARD, [near, pleased])
        before = (near.lines(WARD), near.price(WARD), pleased.lines(WARD), pleased.price(WARD), terms.sums)
        self.assertEqual((old, wishes), (OLD, WISHES))
        old[0][0] = 2
        old[1] = [0, 0]
        old.append([9])
        wishes.append((0, 0, 9, 9))
        wishes[0] = (5, 5, 5, 5)
        self.assertTrue(near.fits(WARD) and pleased.fits(WARD))
        after = (near.lines(WARD), near.price(WARD), pleased.lines(WARD), pleased.price(WARD), terms.sums)
        self.assertEqual(after, before)

    def test_what_is_given_is_the_askers_own(self):
        for rule in (Near(OLD, 1), Denied(WISHES, 9)):
            terms = Terms(WARD, [rule])
            sums = copy.deepcopy(terms.sums)
            lines = rule.lines(WARD)
            price = rule.price(WARD)
            before = copy.deepcopy((lines, price))
            lines.clear()
            price[0].clear()
            self.assertEqual((rule.lines(WARD), rule.price(WARD)), before)
            self.assertEqual(terms.sums, sums)

    def test_denied_changes_nothing(self):
        wishes = list(WISHES)
        rota = [[1, 2], [0, 1]]
        denied(wishes, rota)
        self.assertEqual((wishes, rota), (WISHES, [[1, 2], [0, 1]]))


if __name__ == "__main__":
    unittest.main()
