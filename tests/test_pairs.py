"""The rules on two hands (points 2, 3, 24, 25 and 26)."""

import itertools
import unittest

from rotaward.pairs import Apart, Beside
from rotaward.rules import Rule
from rotaward.wards import Ward

GREAT = 10 ** 60

# The first hand can hold both posts, the second the first alone, the third the second alone.
WARD = Ward(2, [0b11, 0b01, 0b10], [(0b01, 8, 0), (0b10, 12, 1)])
THREE_POSTS = Ward(1, [0, 0], [(0, 8, 0), (0, 8, 1), (0, 8, 0)])
NO_POSTS = Ward(3, [0, 0], [])
NIGHTS_ALONE = Ward(3, [0, 0], [(0, 8, 1)])
DAYS_ALONE = Ward(3, [0, 0], [(0, 8, 0)])
WARDS = [WARD, THREE_POSTS, NO_POSTS, NIGHTS_ALONE, DAYS_ALONE]
KINDS = [Apart, Beside]


def tables(ward):
    rows = [itertools.product(ward.choices(hand), repeat=ward.days) for hand in range(len(ward.hands))]
    return [[list(row) for row in rota] for rota in itertools.product(*rows)]


def came_to(rota, parts):
    return sum(number for hand, day, post, number in parts if rota[hand][day] == post)


def places(ward):
    return list(itertools.product(range(ward.days), range(1, len(ward.posts) + 1)))


def two_hands(ward):
    return list(itertools.permutations(range(len(ward.hands)), 2))


class PairCase(unittest.TestCase):
    # expected tells, for a table, a day and a post, what the line comes to and its bound.
    def told_by(self, rule, ward, expected):
        lines = rule.lines(ward)
        self.assertIs(type(lines), list)
        for line in lines:
            self.assertIs(type(line), tuple)
            self.assertEqual([type(thing) for thing in line], [tuple, int])
            self.assertEqual({type(part) for part in line[0]}, {tuple})
            self.assertEqual({type(thing) for part in line[0] for thing in part}, {int})
        for rota in tables(ward):
            found = [(came_to(rota, parts), bound) for parts, bound in lines]
            self.assertEqual(found, [expected(rota, day, post) for day, post in places(ward)], (rule.told(), rota))

    def kept_just_where(self, rule, ward, keeps):
        lines = rule.lines(ward)
        for rota in tables(ward):
            told = all(came_to(rota, parts) >= bound for parts, bound in lines)
            self.assertEqual(told, keeps(rota), (rule.told(), rota))


class Both(PairCase):
    def test_stand_under_rule(self):
        for kind in KINDS:
            self.assertTrue(issubclass(kind, Rule))

    def test_fit(self):
        for kind in KINDS:
            for hand, other in two_hands(WARD):
                self.assertIs(kind(hand, other).fits(WARD), True)
            self.assertIs(kind(0, 1).fits(NO_POSTS), True)
            self.assertIs(kind(7, 0).fits(Ward(31, [0] * 8, [])), True)

    def test_do_not_fit(self):
        for kind in KINDS:
            for number in (-1, -2, 3, 4, GREAT, -GREAT):
                self.assertIs(kind(number, 0).fits(WARD), False)
                self.assertIs(kind(0, number).fits(WARD), False)
            self.assertIs(kind(0, 1).fits(Ward(3, [0], [])), False)
            self.assertIs(kind(0, 1).fits(Ward(3, [], [])), False)

    def test_the_same_hand_twice_does_not_fit(self):
        for kind, hand in itertools.product(KINDS, (-1, 0, 1, 2, 3)):
            self.assertIs(kind(hand, hand).fits(WARD), False)

    def test_no_plain_way_and_no_price(self):
        for kind, ward in itertools.product(KINDS, WARDS):
            self.assertIsNone(kind(0, 1).plain(ward))
            self.assertIsNone(kind(0, 1).price(ward))

    def test_one_rule_ward_by_ward(self):
        for kind in KINDS:
            rule = kind(1, 0)
            self.assertEqual([len(rule.lines(ward)) for ward in WARDS + WARDS], [4, 3, 0, 3, 3] * 2)
            self.assertEqual([rule.fits(ward) for ward in (WARD, Ward(3, [0], []), WARD)], [True, False, True])

    def test_lines_are_the_askers_own(self):
        for kind, ward in itertools.product(KINDS, WARDS):
            rule = kind(0, 1)
            first = rule.lines(ward)
            as_told = list(first)
            first.append("more")
            first.reverse()
            self.assertEqual(rule.lines(ward), as_told)

    def test_written(self):
        self.assertEqual(Apart(0, 7).told(), "apart 0 7")
        self.assertEqual(Beside(12, 3).told(), "beside 12 3")
        self.assertEqual([kind(-1, -2).told() for kind in KINDS], ["apart -1 -2", "beside -1 -2"])


class TestApart(PairCase):
    def test_lines(self):
        for ward in WARDS:
            for hand, other in two_hands(ward):
                self.told_by(
                    Apart(hand, other), ward,
                    lambda rota, day, post: (-[rota[hand][day], rota[other][day]].count(post), -1),
                )

    def test_kept(self):
        for ward in WARDS:
            for hand, other in two_hands(ward):
                self.kept_just_where(
                    Apart(hand, other), ward,
                    lambda rota: all(a == 0 or a != b for a, b in zip(rota[hand], rota[other])),
                )


class TestBeside(PairCase):
    def test_lines(self):
        for ward in WARDS:
            for hand, other in two_hands(ward):
                self.told_by(
                    Beside(hand, other), ward,
                    lambda rota, day, post: ([rota[other][day]].count(post) - [rota[hand][day]].count(post), 0),
                )

    def test_kept(self):
        for ward in WARDS:
            for hand, other in two_hands(ward):
                self.kept_just_where(
                    Beside(hand, other), ward,
                    lambda rota: all(a == 0 or a == b for a, b in zip(rota[hand], rota[other])),
                )


if __name__ == "__main__":
    unittest.main()
