"""What a ward is made of, what it refuses, what it tells (points 2, 12 and 13)."""

import unittest

from rotaward.errors import NoHand, NoMonth, NoPost, WardError
from rotaward.wards import Ward

GOOD = (0, 8, 0)
GREAT = 10 ** 5000


class Bounds(unittest.TestCase):
    def refused(self, error, days, hands, posts):
        with self.assertRaises(WardError) as taken:
            Ward(days, hands, posts)
        self.assertIs(type(taken.exception), error)
        return taken.exception

    def refused_hand(self, number, hands, posts):
        fault = self.refused(NoHand, 7, hands, posts)
        self.assertEqual(fault.number, number)
        self.assertIs(type(fault.number), int)

    def refused_post(self, number, hands, posts):
        fault = self.refused(NoPost, 7, hands, posts)
        self.assertEqual(fault.number, number)
        self.assertIs(type(fault.number), int)


class Days(Bounds):
    def test_within(self):
        for days in (1, 2, 30, 31):
            self.assertEqual(Ward(days, [], []).days, days)

    def test_out_of_bounds(self):
        for days in (0, 32, -1, 33, GREAT, -GREAT):
            self.refused(NoMonth, days, [], [])


class Hands(Bounds):
    def test_none_to_eight(self):
        for many in range(9):
            self.assertEqual(Ward(1, [5] * many, []).hands, (5,) * many)

    def test_nine_or_more(self):
        self.refused_hand(8, [0] * 9, [])
        self.refused_hand(8, [0] * 20, [])

    def test_skills_within(self):
        for skills in (0, 1, 2 ** 30 - 1):
            self.assertEqual(Ward(1, [skills], []).hands, (skills,))

    def test_skills_out_of_bounds(self):
        for skills in (-1, 2 ** 30, 2 ** 30 + 1, GREAT, -GREAT):
            self.refused_hand(0, [skills], [])
            self.refused_hand(2, [0, 1, skills], [])
            self.refused_hand(7, [0] * 7 + [skills], [])

    def test_the_first_one_out_of_bounds_is_told(self):
        self.refused_hand(1, [0, -1, 2 ** 30, -5], [])

    def test_too_many_and_one_out_of_bounds(self):
        self.refused_hand(3, [0, 0, 0, -1] + [0] * 8, [])
        self.refused_hand(7, [0] * 7 + [-1] * 3, [])
        self.refused_hand(8, [0] * 8 + [-1], [])
        self.refused_hand(8, [0] * 9 + [-1], [])


class Posts(Bounds):
    def test_none_to_six(self):
        for many in range(7):
            self.assertEqual(Ward(1, [], [GOOD] * many).posts, (GOOD,) * many)

    def test_seven_or_more(self):
        self.refused_post(7, [], [GOOD] * 7)
        self.refused_post(7, [], [GOOD] * 15)

    def test_within(self):
        for post in [(0, 0, 0), (2 ** 30 - 1, 10 ** 9, 1), (1, 10 ** 9 - 1, 0), (0, 1, 1)]:
            self.assertEqual(Ward(1, [], [post]).posts, (post,))

    def test_need_out_of_bounds(self):
        for need in (-1, 2 ** 30, GREAT, -GREAT):
            self.refused_post(1, [], [(need, 8, 0)])
            self.refused_post(2, [], [GOOD, (need, 8, 0)])

    def test_hours_out_of_bounds(self):
        for hours in (-1, 10 ** 9 + 1, GREAT, -GREAT):
            self.refused_post(1, [], [(0, hours, 0)])
            self.refused_post(3, [], [GOOD, GOOD, (0, hours, 1)])

    def test_night_out_of_bounds(self):
        for night in (-1, 2, GREAT, -GREAT):
            self.refused_post(1, [], [(0, 8, night)])
            self.refused_post(6, [], [GOOD] * 5 + [(0, 8, night)])

    def test_the_first_one_out_of_bounds_is_told(self):
        self.refused_post(2, [], [GOOD, (0, 8, 2), (-1, 8, 0), (0, -1, 0)])

    def test_too_many_and_one_out_of_bounds(self):
        self.refused_post(4, [], [GOOD] * 3 + [(0, 8, 2)] + [GOOD] * 5)
        self.refused_post(6, [], [GOOD] * 5 + [(0, 8, 2)] * 3)
        self.refused_post(7, [], [GOOD] * 6 + [(0, 8, 2)])
        self.refused_post(7, [], [GOOD] * 7 + [(0, 8, 2)])


class SeveralFaults(Bounds):
    def test_days_ahead_of_hands_and_posts(self):
        self.refused(NoMonth, 0, [-1], [(-1, -1, -1)])
        self.refused(NoMonth, 32, [0] * 9, [GOOD] * 7)

    def test_hands_ahead_of_posts(self):
        self.refused_hand(0, [-1], [(-1, -1, -1)])
        self.refused_hand(8, [0] * 9, [(-1, -1, -1)])
        self.refused_hand(8, [0] * 9, [GOOD] * 7)

    def test_posts_last(self):
        self.refused_post(1, [0] * 8, [(0, 8, 2)])


class Fields(unittest.TestCase):
    def test_as_they_were_told(self):
        ward = Ward(28, [3, 0, 2], [(1, 8, 0), (2, 10, 1)])
        self.assertEqual(ward.days, 28)
        self.assertEqual(ward.hands, (3, 0, 2))
        self.assertEqual(ward.posts, ((1, 8, 0), (2, 10, 1)))

    def test_their_kinds(self):
        ward = Ward(28, [3, 0], [(1, 8, 0), (0, 0, 1)])
        self.assertIs(type(ward.days), int)
        self.assertIs(type(ward.hands), tuple)
        self.assertIs(type(ward.posts), tuple)
        for skills in ward.hands:
            self.assertIs(type(skills), int)
        for post in ward.posts:
            self.assertIs(type(post), tuple)
            self.assertEqual([type(thing) for thing in post], [int, int, int])

    def test_with_no_hands_and_no_posts(self):
        ward = Ward(1, [], [])
        self.assertEqual((ward.hands, ward.posts), ((), ()))
        self.assertIs(type(ward.hands), tuple)
        self.assertIs(type(ward.posts), tuple)

    def test_what_was_handed_in_stays_as_it_was(self):
        hands = [3, 0]
        posts = [(1, 8, 0), (2, 10, 1)]
        ward = Ward(28, hands, posts)
        ward.choices(0)
        ward.tables()
        self.assertEqual(hands, [3, 0])
        self.assertEqual(posts, [(1, 8, 0), (2, 10, 1)])

    def test_what_is_done_to_it_later_changes_no_ward(self):
        hands = [3, 0]
        posts = [(1, 8, 0), (2, 10, 1)]
        ward = Ward(2, hands, posts)
        hands[0] = 0
        hands.append(3)
        posts[0] = (0, 1, 1)
        posts.append(GOOD)
        self.assertEqual(ward.hands, (3, 0))
        self.assertEqual(ward.posts, ((1, 8, 0), (2, 10, 1)))
        self.assertEqual(ward.choices(0), [0, 1, 2])
        self.assertEqual(ward.hours(1), 8)
        self.assertIs(ward.is_night(1), False)
        self.assertEqual(ward.tables(), 9)


class Choices(unittest.TestCase):
    def test_nought_first_then_the_posts_rising(self):
        ward = Ward(3, [0b11, 0b01, 0b10, 0, 0b111], [(0b11, 8, 0), (0b01, 8, 0), (0, 8, 1), (0b110, 8, 0)])
        self.assertEqual(ward.choices(0), [0, 1, 2, 3])
        self.assertEqual(ward.choices(1), [0, 2, 3])
        self.assertEqual(ward.choices(2), [0, 3])
        self.assertEqual(ward.choices(3), [0, 3])
        self.assertEqual(ward.choices(4), [0, 1, 2, 3, 4])

    def test_with_the_highest_skill(self):
        ward = Ward(1, [2 ** 29, 2 ** 30 - 1, 2 ** 29 - 1], [(2 ** 29, 1, 0), (2 ** 30 - 1, 1, 0)])
        self.assertEqual([ward.choices(hand) for hand in range(3)], [[0, 1], [0, 1, 2], [0]])

    def test_with_no_posts(self):
        self.assertEqual(Ward(3, [7], []).choices(0), [0])

    def test_are_ints_in_a_new_list(self):
        ward = Ward(3, [1], [(1, 8, 0)])
        given = ward.choices(0)
        self.assertIs(type(given), list)
        self.assertEqual([type(value) for value in given], [int, int])
        given.append(9)
        given[0] = 4
        self.assertEqual(ward.choices(0), [0, 1])


class HoursAndNights(unittest.TestCase):
    def setUp(self):
        self.ward = Ward(3, [], [(0, 8, 0), (1, 10 ** 9, 1), (3, 0, 1)])

    def test_hours(self):
        self.assertEqual([self.ward.hours(post) for post in range(4)], [0, 8, 10 ** 9, 0])
        self.assertEqual({type(self.ward.hours(post)) for post in range(4)}, {int})

    def test_nights(self):
        told = [self.ward.is_night(post) for post in range(4)]
        self.assertEqual(told, [False, False, True, True])
        self.assertEqual({type(thing) for thing in told}, {bool})

    def test_off_with_no_posts(self):
        ward = Ward(1, [0], [])
        self.assertEqual(ward.hours(0), 0)
        self.assertIs(ward.is_night(0), False)


class Tables(unittest.TestCase):
    def test_with_no_hands(self):
        self.assertEqual(Ward(31, [], [GOOD] * 6).tables(), 1)
        self.assertIs(type(Ward(31, [], []).tables()), int)

    def test_with_no_posts(self):
        self.assertEqual(Ward(31, [0] * 8, []).tables(), 1)

    def test_the_product_over_all_cells(self):
        ward = Ward(3, [0b11, 0b01, 0], [(0b11, 8, 0), (0b01, 8, 0)])
        self.assertEqual(ward.tables(), 3 ** 3 * 2 ** 3 * 1)
        self.assertEqual(Ward(1, [0], [GOOD]).tables(), 2)
        self.assertEqual(Ward(2, [0], [GOOD]).tables(), 4)

    def test_of_the_greatest_ward(self):
        self.assertEqual(Ward(31, [0] * 8, [GOOD] * 6).tables(), 7 ** 248)


if __name__ == "__main__":
    unittest.main()
