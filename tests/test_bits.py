"""Sets of days and of skills as whole numbers (points 2 and 11)."""

import unittest

from rotaward.bits import covers, first_days, members, number_of, shown

ALL = 2 ** 40 - 1
SOME = [0, 1, 2, 3, 5, 6, 0b100000000101, 2 ** 30 - 1, 2 ** 31, 2 ** 39, 2 ** 39 + 1, ALL - 1, ALL]


class Members(unittest.TestCase):
    def test_of_the_set_without_members(self):
        self.assertEqual(members(0), [])

    def test_of_one_place_alone(self):
        for place in range(40):
            self.assertEqual(members(2 ** place), [place])

    def test_of_all_places(self):
        self.assertEqual(members(ALL), list(range(40)))

    def test_rise(self):
        self.assertEqual(members(2 ** 11 + 2 ** 2 + 2 ** 0), [0, 2, 11])
        self.assertEqual(members(2 ** 39 + 2 ** 0), [0, 39])
        self.assertEqual(members(6), [1, 2])

    def test_are_ints_in_a_new_list(self):
        given = members(5)
        self.assertEqual([type(place) for place in given], [int, int])
        given.append(7)
        self.assertEqual(members(5), [0, 2])
        empty = members(0)
        empty.append(7)
        self.assertEqual(members(0), [])


class NumberOf(unittest.TestCase):
    def test_no_places(self):
        self.assertEqual(number_of([]), 0)
        self.assertIs(type(number_of([])), int)

    def test_one_place(self):
        for place in range(40):
            self.assertEqual(number_of([place]), 2 ** place)

    def test_all_places(self):
        self.assertEqual(number_of(list(range(40))), ALL)

    def test_in_any_order(self):
        self.assertEqual(number_of([11, 0, 2]), 2053)
        self.assertEqual(number_of(list(reversed(range(40)))), ALL)

    def test_told_twice(self):
        self.assertEqual(number_of([3, 3]), 8)
        self.assertEqual(number_of([39, 0, 39, 0, 0]), 2 ** 39 + 1)

    def test_leaves_the_places_as_they_were(self):
        places = [5, 1, 5]
        number_of(places)
        self.assertEqual(places, [5, 1, 5])

    def test_is_an_int(self):
        self.assertIs(type(number_of([0])), int)

    def test_of_the_members_is_the_set_again(self):
        for number in SOME + list(range(64)):
            self.assertEqual(number_of(members(number)), number)


class Covers(unittest.TestCase):
    def test_a_set_and_itself(self):
        for number in SOME:
            self.assertIs(covers(number, number), True)

    def test_one_place_more_or_less(self):
        for number in SOME:
            for place in members(ALL - number):
                self.assertIs(covers(number, number + 2 ** place), False)
                self.assertIs(covers(number + 2 ** place, number), True)

    def test_the_set_without_members(self):
        for number in SOME:
            self.assertIs(covers(number, 0), True)
            self.assertIs(covers(0, number), number == 0)

    def test_of_sets_side_by_side(self):
        self.assertIs(covers(0b0110, 0b0011), False)
        self.assertIs(covers(0b0110, 0b1001), False)
        self.assertIs(covers(0b0111, 0b0101), True)
        self.assertIs(covers(8, 1), False)

    def test_as_python_tells_of_sets(self):
        for have in range(32):
            for need in range(32):
                self.assertIs(covers(have, need), set(members(need)) <= set(members(have)))


class FirstDays(unittest.TestCase):
    def test_the_edges(self):
        self.assertEqual(first_days(0), 0)
        self.assertEqual(first_days(1), 1)
        self.assertEqual(first_days(31), 2 ** 31 - 1)
        self.assertEqual(first_days(40), ALL)

    def test_are_the_places_from_nought(self):
        for many in range(41):
            self.assertEqual(members(first_days(many)), list(range(many)))
            self.assertIs(type(first_days(many)), int)


class Shown(unittest.TestCase):
    def test_the_set_without_members(self):
        self.assertEqual(shown(0), "-")

    def test_one_place(self):
        self.assertEqual(shown(1), "0")
        self.assertEqual(shown(2 ** 10), "10")
        self.assertEqual(shown(2 ** 39), "39")

    def test_several(self):
        self.assertEqual(shown(2053), "0,2,11")
        self.assertEqual(shown(2 ** 39 + 1), "0,39")
        self.assertEqual(shown(ALL), ",".join(str(place) for place in range(40)))


if __name__ == "__main__":
    unittest.main()
