"""Rule, and the rules on posts, days and hours (points 2, 3, 24, 25 and 26)."""

import itertools
import unittest

from rotaward.rules import Away, Hours, Least, Most, Rule, Want
from rotaward.wards import Ward

GREAT = 10 ** 60
OUT = (-2, GREAT, -GREAT)

# The first hand can hold both posts, the second the first alone; the second post is by night.
WARD = Ward(3, [0b11, 0b01], [(0b01, 8, 0), (0b10, 12, 1)])
NO_POSTS = Ward(3, [0b11, 0b01], [])
NO_HANDS = Ward(3, [], [(0b01, 8, 0), (0b10, 12, 1)])
NIGHTS_ALONE = Ward(2, [0, 0], [(0, 9, 1), (0, 0, 1)])
DAYS_ALONE = Ward(2, [0, 0], [(0, 10 ** 9, 0)])
ONE_DAY = Ward(1, [0, 0], [(0, 8, 0), (0, 7, 1)])
LONGEST = Ward(31, [0] * 8, [(0, 8, 0)] * 6)
WARDS = [WARD, NO_POSTS, NIGHTS_ALONE, DAYS_ALONE, ONE_DAY]


def tables(ward):
    rows = [itertools.product(ward.choices(hand), repeat=ward.days) for hand in range(len(ward.hands))]
    return [[list(row) for row in rota] for rota in itertools.product(*rows)]


def came_to(rota, parts):
    return sum(number for hand, day, post, number in parts if rota[hand][day] == post)


def in_set(days):
    return [day for day in range(40) if days // 2 ** day % 2 == 1]


def works_on(ward, rota, hand, days):
    return [day for day in in_set(days) if day < ward.days and rota[hand][day] != 0]


class RuleCase(unittest.TestCase):
    def fit(self, ward, rules):
        for rule in rules:
            self.assertIs(rule.fits(ward), True, rule.told())

    def no_fit(self, ward, rules):
        for rule in rules:
            self.assertIs(rule.fits(ward), False, rule.told())

    # expected tells, for a table, the list of what the lines come to and their bounds.
    def told_by(self, rule, ward, expected):
        lines = rule.lines(ward)
        self.well_formed(lines)
        for rota in tables(ward):
            found = [(came_to(rota, parts), bound) for parts, bound in lines]
            self.assertEqual(found, expected(rota), (rule.told(), rota))

    def well_formed(self, lines):
        self.assertIs(type(lines), list)
        for line in lines:
            self.assertEqual([type(thing) for thing in line], [tuple, int])
            self.assertIs(type(line), tuple)
            for part in line[0]:
                self.assertIs(type(part), tuple)
                self.assertEqual([type(thing) for thing in part], [int] * 4)

    def kept_just_where(self, rule, ward, keeps):
        lines = rule.lines(ward)
        for rota in tables(ward):
            told = all(came_to(rota, parts) >= bound for parts, bound in lines)
            self.assertEqual(told, keeps(rota), (rule.told(), rota))

    def lines_are_the_askers_own(self, rule, ward):
        first = rule.lines(ward)
        as_told = list(first)
        first.append("more")
        first.reverse()
        self.assertEqual(rule.lines(ward), as_told)


class RuleItself(RuleCase):
    def test_fits_each_ward(self):
        for ward in WARDS + [NO_HANDS, LONGEST, Ward(1, [], [])]:
            self.assertIs(Rule().fits(ward), True)

    def test_has_no_lines_no_plain_way_no_price_and_no_text(self):
        for ward in WARDS + [NO_HANDS]:
            self.assertEqual(Rule().lines(ward), [])
            self.assertIsNone(Rule().plain(ward))
            self.assertIsNone(Rule().price(ward))
        self.assertEqual(Rule().told(), "")

    def test_its_lines_are_the_askers_own(self):
        rule = Rule()
        rule.lines(WARD).append("more")
        self.assertEqual(rule.lines(WARD), [])

    def test_the_others_stand_under_it(self):
        for kind in (Want, Most, Least, Hours, Away):
            self.assertTrue(issubclass(kind, Rule))

    def test_no_other_has_a_price(self):
        for rule in (Want(0, 1, 1), Most(0, 7, 1), Least(0, 7, 1), Hours(0, 0, 9), Away(0, 7)):
            self.assertIsNone(rule.price(WARD))


class TestWant(RuleCase):
    def test_fits(self):
        self.fit(WARD, [Want(0, 1, 0), Want(2, 2, 99), Want(1, 1, 50), Want(0, 2, 98)])
        self.fit(NO_HANDS, [Want(0, 1, 99)])
        self.fit(LONGEST, [Want(30, 6, 8)])

    def test_does_not_fit(self):
        self.no_fit(WARD, [Want(day, 1, 1) for day in OUT + (-1, 3, 4)])
        self.no_fit(WARD, [Want(0, post, 1) for post in OUT + (-1, 0, 3, 4)])
        self.no_fit(WARD, [Want(0, 1, many) for many in OUT + (-1, 100, 101)])
        self.no_fit(NO_POSTS, [Want(0, 0, 1), Want(0, 1, 1)])
        self.no_fit(LONGEST, [Want(31, 6, 1), Want(30, 7, 1)])

    def test_lines(self):
        for ward in WARDS:
            places = itertools.product(range(ward.days), range(1, len(ward.posts) + 1), (0, 1, 2, 99))
            for day, post, many in places:
                self.told_by(
                    Want(day, post, many), ward, lambda rota: [([row[day] for row in rota].count(post), many)]
                )

    def test_lines_with_no_hands(self):
        (line,) = Want(0, 1, 1).lines(NO_HANDS)
        self.assertEqual((came_to([], line[0]), line[1]), (0, 1))

    def test_kept(self):
        for many in range(4):
            self.kept_just_where(Want(1, 1, many), WARD, lambda rota: [rota[0][1], rota[1][1]].count(1) >= many)

    def test_plain_way(self):
        self.assertEqual(Want(2, 1, 0).plain(WARD), ("want", 2, 1, 0))
        self.assertEqual(Want(0, 2, 99).plain(WARD), ("want", 0, 2, 99))
        self.assertIs(type(Want(0, 2, 99).plain(WARD)), tuple)

    def test_written(self):
        self.assertEqual(Want(2, 1, 0).told(), "want 2 1 0")
        self.assertEqual(Want(30, 6, 99).told(), "want 30 6 99")
        self.assertEqual(Want(-3, -1, -2).told(), "want -3 -1 -2")


class TestMost(RuleCase):
    def test_fits(self):
        self.fit(WARD, [Most(0, 0, -1), Most(1, 2 ** 31 - 1, 99), Most(0, 2 ** 30, 0), Most(1, 7, 98)])

    def test_does_not_fit(self):
        self.no_fit(WARD, [Most(hand, 7, 1) for hand in OUT + (-1, 2, 3)])
        self.no_fit(WARD, [Most(0, days, 1) for days in OUT + (-1, 2 ** 31, 2 ** 31 + 1)])
        self.no_fit(WARD, [Most(0, 7, many) for many in OUT + (-3, 100, 101)])
        self.no_fit(NO_HANDS, [Most(0, 7, 1)])

    def test_lines(self):
        for ward in WARDS:
            for hand, days, many in itertools.product((0, 1), (0, 1, 5, 7, 2, 8, 2 ** 31 - 1), (-1, 0, 1, 2, 99)):
                self.told_by(
                    Most(hand, days, many), ward,
                    lambda rota: [(-len(works_on(ward, rota, hand, days)), -many)],
                )

    def test_kept(self):
        for days, many in itertools.product((0, 3, 6, 7, 15), (0, 1, 2, 3)):
            self.kept_just_where(
                Most(0, days, many), WARD, lambda rota: len(works_on(WARD, rota, 0, days)) <= many
            )
        self.kept_just_where(Most(0, 7, -1), WARD, lambda rota: False)
        self.kept_just_where(Most(0, 0, -1), WARD, lambda rota: False)

    def test_plain_way_where_it_speaks_of_all_days(self):
        for days in (7, 15, 2 ** 31 - 1, 7 + 2 ** 30):
            self.assertEqual(Most(1, days, 3).plain(WARD), ("most", 1, 3))
        self.assertEqual(Most(0, 7, -1).plain(WARD), ("most", 0, -1))
        self.assertEqual(Most(7, 2 ** 31 - 1, 99).plain(LONGEST), ("most", 7, 99))
        self.assertEqual(Most(0, 1, 0).plain(ONE_DAY), ("most", 0, 0))

    def test_else_none(self):
        for days in (0, 1, 2, 3, 5, 6, 8, 14, 2 ** 31 - 2, 2 ** 31 - 1 - 4, 2 ** 30):
            self.assertIsNone(Most(1, days, 3).plain(WARD))
        for days in (2 ** 30 - 1, 2 ** 31 - 2, 0):
            self.assertIsNone(Most(1, days, 3).plain(LONGEST))
        self.assertIsNone(Most(0, 2, 0).plain(ONE_DAY))

    def test_of_one_rule_ward_by_ward(self):
        rule = Most(1, 3, 2)
        self.assertEqual(rule.plain(NIGHTS_ALONE), ("most", 1, 2))
        self.assertIsNone(rule.plain(WARD))
        self.assertEqual(rule.plain(ONE_DAY), ("most", 1, 2))
        self.assertEqual(rule.plain(NIGHTS_ALONE), ("most", 1, 2))

    def test_written(self):
        self.assertEqual(Most(0, 2053, 4).told(), "most 0 0,2,11 4")
        self.assertEqual(Most(7, 0, -1).told(), "most 7 - -1")
        self.assertEqual(Most(-1, 2 ** 30, 99).told(), "most -1 30 99")


class TestLeast(RuleCase):
    def test_fits(self):
        self.fit(WARD, [Least(0, 0, 0), Least(1, 2 ** 31 - 1, 99), Least(0, 2 ** 30, 98)])

    def test_does_not_fit(self):
        self.no_fit(WARD, [Least(hand, 7, 1) for hand in OUT + (-1, 2, 3)])
        self.no_fit(WARD, [Least(0, days, 1) for days in OUT + (-1, 2 ** 31, 2 ** 31 + 1)])
        self.no_fit(WARD, [Least(0, 7, many) for many in OUT + (-1, 100, 101)])
        self.no_fit(NO_HANDS, [Least(0, 7, 1)])

    def test_lines(self):
        for ward in WARDS:
            for hand, days, many in itertools.product((0, 1), (0, 1, 5, 7, 2, 8, 2 ** 31 - 1), (0, 1, 2, 99)):
                self.told_by(
                    Least(hand, days, many), ward,
                    lambda rota: [(len(works_on(ward, rota, hand, days)), many)],
                )

    def test_kept(self):
        for days, many in itertools.product((0, 3, 6, 7, 15), (0, 1, 2, 3, 4)):
            self.kept_just_where(
                Least(0, days, many), WARD, lambda rota: len(works_on(WARD, rota, 0, days)) >= many
            )

    def test_no_plain_way(self):
        for days in (0, 1, 7, 2 ** 31 - 1):
            self.assertIsNone(Least(0, days, 1).plain(WARD))

    def test_written(self):
        self.assertEqual(Least(0, 2053, 4).told(), "least 0 0,2,11 4")
        self.assertEqual(Least(7, 0, 0).told(), "least 7 - 0")


class TestHours(RuleCase):
    def test_fits(self):
        top = 10 ** 11
        self.fit(WARD, [Hours(0, 0, -1), Hours(1, top, top), Hours(0, top - 1, top - 1)])
        self.fit(WARD, [Hours(0, 9, 3), Hours(0, 1, 0)])

    def test_does_not_fit(self):
        top = 10 ** 11
        self.no_fit(WARD, [Hours(hand, 0, 9) for hand in OUT + (-1, 2, 3)])
        self.no_fit(WARD, [Hours(0, least, 9) for least in OUT + (-1, top + 1, top + 2)])
        self.no_fit(WARD, [Hours(0, 0, most) for most in OUT + (-3, top + 1, top + 2)])
        self.no_fit(NO_HANDS, [Hours(0, 0, 9)])

    def test_lines(self):
        for ward in WARDS:
            hours = [0] + [post[1] for post in ward.posts]
            for hand, least, most in itertools.product((0, 1), (0, 8, 10 ** 11), (-1, 0, 20, 10 ** 11)):
                self.told_by(
                    Hours(hand, least, most), ward,
                    lambda rota: [
                        (sum(hours[post] for post in rota[hand]), least),
                        (-sum(hours[post] for post in rota[hand]), -most),
                    ],
                )

    def test_of_a_whole_month(self):
        ward = Ward(31, [0], [(0, 10 ** 9, 0)])
        found = [came_to([[1] * 31], parts) for parts, bound in Hours(0, 0, 0).lines(ward)]
        self.assertEqual(found, [31 * 10 ** 9, -31 * 10 ** 9])

    def test_kept(self):
        for least, most in ((0, 100), (8, 20), (9, 19), (20, 20), (21, 20), (36, 36), (37, 99), (0, 0), (0, -1)):
            self.kept_just_where(
                Hours(0, least, most), WARD,
                lambda rota: least <= 8 * rota[0].count(1) + 12 * rota[0].count(2) <= most,
            )

    def test_no_plain_way(self):
        self.assertIsNone(Hours(0, 0, 9).plain(WARD))

    def test_written(self):
        self.assertEqual(Hours(0, 8, 100000000000).told(), "hours 0 8 100000000000")
        self.assertEqual(Hours(3, 0, -1).told(), "hours 3 0 -1")


class TestAway(RuleCase):
    def test_fits(self):
        self.fit(WARD, [Away(0, 0), Away(1, 2 ** 31 - 1), Away(0, 2 ** 30), Away(1, 5)])

    def test_does_not_fit(self):
        self.no_fit(WARD, [Away(hand, 7) for hand in OUT + (-1, 2, 3)])
        self.no_fit(WARD, [Away(0, days) for days in OUT + (-1, 2 ** 31, 2 ** 31 + 1)])
        self.no_fit(NO_HANDS, [Away(0, 7)])

    def test_lines_one_for_each_day_rising(self):
        for ward in WARDS:
            for hand, days in itertools.product((0, 1), (0, 1, 2, 4, 5, 6, 7, 8, 13, 2 ** 31 - 1)):
                told = [day for day in in_set(days) if day < ward.days]
                self.told_by(
                    Away(hand, days), ward,
                    lambda rota: [(-1 if rota[hand][day] != 0 else 0, 0) for day in told],
                )

    def test_days_that_the_month_has_not(self):
        self.assertEqual(Away(0, 8 + 2 ** 30).lines(WARD), [])
        self.assertEqual(len(Away(0, 2 ** 31 - 1).lines(WARD)), 3)
        self.assertEqual(len(Away(0, 2 ** 31 - 1).lines(LONGEST)), 31)

    def test_of_one_rule_ward_by_ward(self):
        rule = Away(1, 6)
        self.assertEqual([len(rule.lines(ward)) for ward in (WARD, ONE_DAY, NIGHTS_ALONE, WARD)], [2, 0, 1, 2])
        self.assertEqual([rule.fits(ward) for ward in (WARD, NO_HANDS, Ward(9, [0], []), WARD)],
                         [True, False, False, True])

    def test_kept(self):
        for days in (0, 1, 6, 7, 15, 8):
            self.kept_just_where(Away(1, days), WARD, lambda rota: works_on(WARD, rota, 1, days) == [])

    def test_plain_way(self):
        self.assertEqual(Away(1, 5).plain(WARD), ("away", 1, 5))
        self.assertEqual(Away(0, 0).plain(WARD), ("away", 0, 0))
        self.assertEqual(Away(0, 2 ** 31 - 1).plain(WARD), ("away", 0, 2 ** 31 - 1))

    def test_written(self):
        self.assertEqual(Away(0, 2053).told(), "away 0 0,2,11")
        self.assertEqual(Away(7, 0).told(), "away 7 -")


class TheAskersOwn(RuleCase):
    def test_lines(self):
        for rule in (Want(0, 1, 1), Most(0, 7, 1), Least(0, 7, 1), Hours(0, 0, 9), Away(0, 7)):
            for ward in (WARD, NO_POSTS):
                if rule.fits(ward):
                    self.lines_are_the_askers_own(rule, ward)


if __name__ == "__main__":
    unittest.main()
