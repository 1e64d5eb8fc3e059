"""The refusals: their place under WardError, what each keeps (interface; points 2, 12, 14)."""

import unittest

from rotaward import errors
from rotaward.errors import (
    Faulty, NoAsk, NoHand, NoMonth, NoMost, NoPost, NoRow, NoRule, NoSkill, NoSwap, NotAsked, NoTable, NoText,
    WardError,
)

OF_A_TEXT = [NoMonth, NoTable, NoMost, NoSkill, NoSwap, NoAsk, NotAsked, NoText, NoRow]
OF_A_NUMBER = [NoHand, NoPost, NoRule]
ALL = OF_A_TEXT + OF_A_NUMBER + [Faulty]


def made(kind):
    if kind is Faulty:
        return kind([(0, 0, 1)])
    return kind(3) if kind in OF_A_NUMBER else kind("words")


class Kinship(unittest.TestCase):
    def test_there_are_thirteen(self):
        self.assertEqual(len(set(ALL)), 13)

    def test_ward_error_stands_straight_under_value_error(self):
        self.assertEqual(WardError.__bases__, (ValueError,))

    def test_each_stands_straight_under_ward_error(self):
        for kind in ALL:
            with self.subTest(kind=kind.__name__):
                self.assertEqual(kind.__bases__, (WardError,))

    def test_each_is_taken_as_itself_and_as_no_other(self):
        for kind in ALL:
            fault = made(kind)
            self.assertIsInstance(fault, ValueError)
            self.assertEqual([other for other in ALL if isinstance(fault, other)], [kind])

    def test_each_can_be_raised_and_taken(self):
        for kind in ALL:
            with self.subTest(kind=kind.__name__), self.assertRaises(WardError):
                raise made(kind)

    def test_each_bears_its_name_in_the_module(self):
        for kind in ALL:
            self.assertIs(getattr(errors, kind.__name__), kind)


class Kept(unittest.TestCase):
    def test_the_number_is_kept(self):
        for kind in OF_A_NUMBER:
            for number in (0, 1, 8, 120, -1):
                with self.subTest(kind=kind.__name__, number=number):
                    self.assertEqual(kind(number).number, number)
                    self.assertIs(type(kind(number).number), int)

    def test_a_very_great_number_is_kept_and_the_words_can_be_read(self):
        for kind in OF_A_NUMBER:
            fault = kind(10 ** 5000)
            self.assertEqual(fault.number, 10 ** 5000)
            self.assertIsInstance(str(fault), str)

    def test_what_was_found_is_kept(self):
        self.assertEqual(Faulty([(0, 1, 2), (3, 0, 1)]).found, [(0, 1, 2), (3, 0, 1)])
        self.assertEqual(Faulty([]).found, [])

    def test_what_was_found_is_a_list_of_its_own(self):
        handed = [(0, 1, 2)]
        fault = Faulty(handed)
        words = str(fault)
        handed.append((5, 5, 5))
        self.assertEqual(fault.found, [(0, 1, 2)])
        self.assertEqual(str(fault), words)
        fault.found.append((6, 6, 6))
        self.assertEqual(handed, [(0, 1, 2), (5, 5, 5)])
        self.assertIs(type(fault.found), list)

    def test_those_with_a_field_are_made_of_just_one_thing(self):
        for kind in OF_A_NUMBER + [Faulty]:
            with self.subTest(kind=kind.__name__):
                self.assertRaises(TypeError, kind)
                self.assertRaises(TypeError, kind, [], [])

    def test_the_others_are_made_of_a_text(self):
        for kind in OF_A_TEXT + [WardError]:
            self.assertEqual(str(kind("some words")), "some words")


if __name__ == "__main__":
    unittest.main()
