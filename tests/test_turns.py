"""The rules on a hand's turns (points 2, 3, 24, 25 and 26)."""

import itertools
import unittest

from rotaward.rules import Rule
from rotaward.turns import Nights, Off, Rest
from rotaward.wards import Ward

GREAT = 10 ** 60

# Of each ward the first hand stands idle, so that it is seen whether the rules speak of the second alone.
MIXED = Ward(5, [0, 1], [(1, 8, 0), (1, 10, 1)])
TWO_OF_EACH = Ward(3, [0, 1], [(1, 8, 1), (1, 8, 0), (1, 8, 1), (1, 8, 0)])
NIGHTS_ALONE = Ward(6, [0, 1], [(1, 8, 1)])
DAYS_ALONE = Ward(6, [0, 1], [(1, 8, 0)])
NO_POSTS = Ward(4, [0, 1], [])
ONE_DAY = Ward(1, [0, 1], [(1, 8, 0), (1, 10, 1)])
TWO_DAYS = Ward(2, [0, 1], [(1, 8, 0), (1, 10, 1)])
WARDS = [MIXED, TWO_OF_EACH, NIGHTS_ALONE, DAYS_ALONE, NO_POSTS, ONE_DAY, TWO_DAYS]
LONGEST = Ward(31, [0] * 8, [(0, 8, 0)] * 3 + [(0, 8, 1)] * 3)
KINDS = [Nights, Rest, Off]


def tables(ward):
    return [[[0] * ward.days, list(row)] for row in itertools.product(ward.choices(1), repeat=ward.days)]


def came_to(rota, parts):
    return sum(number for hand, day, post, number in parts if rota[hand][day] == post)


def at_night(ward, row):
    return [1 if post != 0 and ward.posts[post - 1][2] == 1 else 0 for post in row]


def by_day(ward, row):
    return [1 if post != 0 and ward.posts[post - 1][2] == 0 else 0 for post in row]


def at_work(row):
    return [1 if post != 0 else 0 for post in row]


class TurnCase(unittest.TestCase):
    # expected tells, for the second hand's row, the list of what the lines come to and their bounds.
    def told_by(self, rule, ward, expected):
        lines = rule.lines(ward)
        self.assertIs(type(lines), list)
        for line in lines:
            self.assertIs(type(line), tuple)
            self.assertEqual([type(thing) for thing in line], [tuple, int])
            self.assertEqual({type(part) for part in line[0]} - {tuple}, set())
            self.assertEqual({type(thing) for part in line[0] for thing in part} - {int}, set())
        for rota in tables(ward):
            found = [(came_to(rota, parts), bound) for parts, bound in lines]
            self.assertEqual(found, expected(rota[1]), (rule.told(), rota))

    def kept_just_where(self, rule, ward, keeps):
        lines = rule.lines(ward)
        for rota in tables(ward):
            told = all(came_to(rota, parts) >= bound for parts, bound in lines)
            self.assertEqual(told, keeps(rota[1]), (rule.told(), rota))


class All(TurnCase):
    def test_stand_under_rule(self):
        for kind in KINDS:
            self.assertTrue(issubclass(kind, Rule))

    def test_fit(self):
        for kind in KINDS:
            for hand, many in ((0, 0), (1, 99), (0, 1), (1, 98), (0, 5), (1, 31)):
                self.assertIs(kind(hand, many).fits(MIXED), True)
                self.assertIs(kind(hand, many).fits(NO_POSTS), True)
            self.assertIs(kind(7, 99).fits(LONGEST), True)

    def test_do_not_fit(self):
        for kind in KINDS:
            for hand in (-1, -2, 2, 3, GREAT, -GREAT):
                self.assertIs(kind(hand, 1).fits(MIXED), False)
            for many in (-1, -2, 100, 101, GREAT, -GREAT):
                self.assertIs(kind(1, many).fits(MIXED), False)
            self.assertIs(kind(8, 1).fits(LONGEST), False)
            self.assertIs(kind(0, 1).fits(Ward(3, [], [(0, 8, 1)])), False)

    def test_no_plain_way_and_no_price(self):
        for kind in KINDS:
            for ward in WARDS:
                self.assertIsNone(kind(1, 1).plain(ward))
                self.assertIsNone(kind(1, 1).price(ward))

    def test_one_rule_ward_by_ward(self):
        for kind in KINDS:
            rule = kind(1, 2)
            told = [rule.lines(ward) for ward in WARDS]
            self.assertEqual([rule.lines(ward) for ward in WARDS], told)
            self.assertEqual([rule.fits(ward) for ward in (MIXED, Ward(3, [0], []), MIXED)], [True, False, True])

    def test_lines_are_the_askers_own(self):
        for kind in KINDS:
            rule = kind(1, 2)
            first = rule.lines(MIXED)
            as_told = list(first)
            first.append("more")
            first.reverse()
            self.assertEqual(rule.lines(MIXED), as_told)
            none = kind(1, 0).lines(ONE_DAY)
            many = len(none)
            none.append("more")
            self.assertEqual(len(kind(1, 0).lines(ONE_DAY)), many)

    def test_written(self):
        self.assertEqual(Nights(0, 3).told(), "nights 0 3")
        self.assertEqual(Rest(7, 99).told(), "rest 7 99")
        self.assertEqual(Off(1, 0).told(), "off 1 0")
        self.assertEqual([kind(-1, -20).told() for kind in KINDS], ["nights -1 -20", "rest -1 -20", "off -1 -20"])


class TestNights(TurnCase):
    def test_lines(self):
        for ward, many in itertools.product(WARDS, range(8)):
            self.told_by(
                Nights(1, many), ward,
                lambda row: [
                    (-sum(at_night(ward, row)[day:day + many + 1]), -many) for day in range(max(0, ward.days - many))
                ],
            )

    def test_how_many_lines(self):
        told = [len(Nights(0, many).lines(LONGEST)) for many in (0, 1, 29, 30, 31, 99)]
        self.assertEqual(told, [31, 30, 2, 1, 0, 0])

    def test_kept(self):
        for ward, many in itertools.product(WARDS, range(8)):
            too_long = "1" * (many + 1)
            self.kept_just_where(
                Nights(1, many), ward, lambda row: too_long not in "".join(map(str, at_night(ward, row)))
            )

    def test_rows_at_the_first_and_the_last_days(self):
        rule = Nights(1, 2)
        broken = {
            (2, 2, 2, 0, 0): [0], (0, 0, 2, 2, 2): [2], (0, 2, 2, 2, 0): [1], (2, 2, 1, 2, 2): [],
            (2, 2, 2, 2, 2): [0, 1, 2],
        }
        for row, places in broken.items():
            lines = enumerate(rule.lines(MIXED))
            told = [place for place, (parts, bound) in lines if came_to([[0] * 5, list(row)], parts) < bound]
            self.assertEqual(told, places)


class TestRest(TurnCase):
    def test_lines(self):
        for ward, many in itertools.product(WARDS, range(8)):
            pairs = [
                (day, day + step) for day in range(ward.days) for step in range(1, many + 1) if day + step < ward.days
            ]
            self.told_by(
                Rest(1, many), ward,
                lambda row: [(-at_night(ward, row)[day] - by_day(ward, row)[later], -1) for day, later in pairs],
            )

    def test_how_many_lines(self):
        told = [len(Rest(0, many).lines(LONGEST)) for many in (0, 1, 2, 30, 31, 99)]
        self.assertEqual(told, [0, 30, 30 + 29, 465, 465, 465])

    def test_kept(self):
        for ward, many in itertools.product(WARDS, range(8)):
            self.kept_just_where(
                Rest(1, many), ward,
                lambda row: not any(
                    night == 1 and 1 in by_day(ward, row)[day + 1:day + 1 + many]
                    for day, night in enumerate(at_night(ward, row))
                ),
            )

    def test_ahead_of_the_first_day_and_behind_the_last_lies_nothing(self):
        self.kept_just_where(Rest(1, 99), ONE_DAY, lambda row: True)
        self.kept_just_where(Rest(1, 1), TWO_DAYS, lambda row: row != [2, 1])
        self.kept_just_where(Rest(1, 99), TWO_DAYS, lambda row: row != [2, 1])


class TestOff(TurnCase):
    def test_lines(self):
        for ward, many in itertools.product(WARDS, range(8)):
            pairs = [(a, b) for a in range(ward.days) for b in range(a + 2, a + many + 1) if b < ward.days]
            self.told_by(
                Off(1, many), ward,
                lambda row: [
                    (sum(at_work(row)[a + 1:b]) - at_work(row)[a] - at_work(row)[b], -1) for a, b in pairs
                ],
            )

    def test_how_many_lines(self):
        told = [len(Off(0, many).lines(LONGEST)) for many in (0, 1, 2, 3, 30, 31, 99)]
        self.assertEqual(told, [0, 0, 29, 29 + 28, 435, 435, 435])

    def test_kept(self):
        for ward, many in itertools.product(WARDS, range(8)):
            self.kept_just_where(Off(1, many), ward, lambda row: all(gap == 0 or gap >= many for gap in gaps(row)))

    def test_days_off_at_the_first_and_the_last_days(self):
        for row in ([0, 1, 1, 1, 0], [0, 0, 0, 0, 1], [1, 0, 0, 0, 0], [0, 0, 2, 0, 0], [0, 0, 0, 0, 0]):
            for parts, bound in Off(1, 99).lines(MIXED):
                self.assertGreaterEqual(came_to([[0] * 5, row], parts), bound)


# How many days lie between two days at work next to one another.
def gaps(row):
    worked = [day for day, post in enumerate(row) if post != 0]
    return [later - day - 1 for day, later in zip(worked, worked[1:])]


if __name__ == "__main__":
    unittest.main()
