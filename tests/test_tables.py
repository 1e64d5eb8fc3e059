"""Tables of a ward, and what is told of them (points 2, 3, 13, 14 and 15)."""

import itertools
import unittest

from rotaward.errors import NoTable, WardError
from rotaward.tables import at_post, blank, cells, changed, exchanged, hours_of, is_table, need_table
from rotaward.wards import Ward

# The first hand can hold both posts, the second the first alone, the third none.
WARD = Ward(3, [0b11, 0b01, 0], [(0b01, 8, 0), (0b10, 12, 1)])
TABLE = [[1, 0, 2], [0, 1, 1], [0, 0, 0]]
NO_TABLES = [
    [],
    [[1, 0, 2], [0, 1, 1]],
    [[1, 0, 2], [0, 1, 1], [0, 0, 0], [0, 0, 0]],
    [[1, 0, 2], [0, 1, 1], [0, 0, 0], []],
    [[1, 0], [0, 1, 1], [0, 0, 0]],
    [[1, 0, 2], [0, 1, 1], []],
    [[1, 0, 2, 0], [0, 1, 1], [0, 0, 0]],
    [[1, 0, 2], [0, 1, 1], [0, 0, 0, 0]],
    [[-1, 0, 2], [0, 1, 1], [0, 0, 0]],
    [[1, 0, 2], [0, 1, 1], [0, 0, -1]],
    [[1, 0, 3], [0, 1, 1], [0, 0, 0]],
    [[1, 0, 10 ** 5000], [0, 1, 1], [0, 0, 0]],
    [[1, 0, -10 ** 5000], [0, 1, 1], [0, 0, 0]],
    [[1, 0, 2], [0, 1, 2], [0, 0, 0]],
    [[1, 0, 2], [0, 1, 1], [0, 1, 0]],
]


def copy_of(rota):
    return [list(row) for row in rota]


class Cells(unittest.TestCase):
    def test_day_by_day(self):
        self.assertEqual(
            cells(WARD), [(0, 0), (1, 0), (2, 0), (0, 1), (1, 1), (2, 1), (0, 2), (1, 2), (2, 2)]
        )

    def test_with_no_hands(self):
        self.assertEqual(cells(Ward(5, [], [])), [])

    def test_of_one_day_and_of_one_hand(self):
        self.assertEqual(cells(Ward(1, [0, 0], [])), [(0, 0), (1, 0)])
        self.assertEqual(cells(Ward(2, [0], [])), [(0, 0), (0, 1)])

    def test_of_the_greatest_ward(self):
        told = cells(Ward(31, [0] * 8, []))
        self.assertEqual(told, [(hand, day) for day in range(31) for hand in range(8)])

    def test_are_the_askers_own(self):
        given = cells(WARD)
        self.assertEqual({type(cell) for cell in given}, {tuple})
        self.assertEqual({type(thing) for cell in given for thing in cell}, {int})
        given.clear()
        self.assertEqual(len(cells(WARD)), 9)


class Blank(unittest.TestCase):
    def test_nought_everywhere(self):
        self.assertEqual(blank(WARD), [[0, 0, 0], [0, 0, 0], [0, 0, 0]])
        self.assertEqual(blank(Ward(1, [0], [])), [[0]])
        self.assertEqual(blank(Ward(31, [0] * 8, [])), [[0] * 31] * 8)

    def test_with_no_hands(self):
        self.assertEqual(blank(Ward(31, [], [(0, 8, 0)])), [])

    def test_is_a_table(self):
        self.assertIs(is_table(WARD, blank(WARD)), True)

    def test_each_hands_list_is_its_own(self):
        given = blank(WARD)
        given[0][1] = 2
        given[1].append(5)
        self.assertEqual(given, [[0, 2, 0], [0, 0, 0, 5], [0, 0, 0]])
        self.assertEqual(blank(WARD), [[0, 0, 0], [0, 0, 0], [0, 0, 0]])

    def test_holds_ints(self):
        self.assertEqual({type(value) for row in blank(WARD) for value in row}, {int})


class IsTable(unittest.TestCase):
    def test_tables(self):
        for rota in (TABLE, [[2, 2, 2], [1, 1, 1], [0, 0, 0]], [[1, 1, 1], [0, 0, 0], [0, 0, 0]]):
            self.assertIs(is_table(WARD, rota), True)

    def test_what_is_none(self):
        for rota in NO_TABLES:
            with self.subTest(place=NO_TABLES.index(rota)):
                self.assertIs(is_table(WARD, rota), False)

    def test_with_no_hands(self):
        ward = Ward(3, [], [(0, 8, 0)])
        self.assertIs(is_table(ward, []), True)
        self.assertIs(is_table(ward, [[]]), False)
        self.assertIs(is_table(ward, [[0, 0, 0]]), False)

    def test_with_no_posts(self):
        ward = Ward(2, [7], [])
        self.assertIs(is_table(ward, [[0, 0]]), True)
        self.assertIs(is_table(ward, [[0, 1]]), False)
        self.assertIs(is_table(ward, [[-1, 0]]), False)

    def test_as_many_as_the_ward_tells(self):
        ward = Ward(2, [0b1, 0b11], [(0b1, 8, 0), (0b10, 8, 0)])
        rows = [list(row) for row in itertools.product(range(-1, 4), repeat=2)]
        tables = [pair for pair in itertools.product(rows, rows) if is_table(ward, list(pair))]
        self.assertEqual(len(tables), ward.tables())

    def test_leaves_the_lists_as_they_were(self):
        for rota in [TABLE] + NO_TABLES:
            handed = copy_of(rota)
            is_table(WARD, handed)
            self.assertEqual(handed, rota)


class NeedTable(unittest.TestCase):
    def test_a_table_with_the_same_values(self):
        self.assertEqual(need_table(WARD, TABLE), TABLE)
        self.assertEqual(need_table(Ward(3, [], []), []), [])

    def test_what_is_none_is_refused(self):
        for rota in NO_TABLES:
            handed = copy_of(rota)
            with self.subTest(place=NO_TABLES.index(rota)):
                with self.assertRaises(WardError) as taken:
                    need_table(WARD, handed)
                self.assertIs(type(taken.exception), NoTable)
                self.assertEqual(handed, rota)
        self.assertRaises(NoTable, need_table, Ward(3, [], []), [[]])

    def test_the_copy_is_the_askers_own(self):
        handed = copy_of(TABLE)
        given = need_table(WARD, handed)
        given[0][0] = 0
        given.append([])
        self.assertEqual(handed, TABLE)
        again = need_table(WARD, handed)
        handed[1][1] = 0
        handed.append([])
        self.assertEqual(again, TABLE)


class AtPost(unittest.TestCase):
    ROTA = [[1, 0, 2], [1, 2, 1], [0, 2, 1], [1, 2, 0]]

    def test_who_holds_a_post(self):
        self.assertEqual(at_post(self.ROTA, 0, 1), [0, 1, 3])
        self.assertEqual(at_post(self.ROTA, 1, 2), [1, 2, 3])
        self.assertEqual(at_post(self.ROTA, 2, 1), [1, 2])
        self.assertEqual(at_post(self.ROTA, 2, 2), [0])

    def test_who_is_off(self):
        self.assertEqual(at_post(self.ROTA, 0, 0), [2])
        self.assertEqual(at_post(self.ROTA, 2, 0), [3])

    def test_nobody(self):
        self.assertEqual(at_post(self.ROTA, 0, 2), [])
        self.assertEqual(at_post([], 0, 0), [])

    def test_is_the_askers_own(self):
        rota = copy_of(self.ROTA)
        given = at_post(rota, 0, 1)
        self.assertEqual({type(hand) for hand in given}, {int})
        given.clear()
        self.assertEqual(at_post(rota, 0, 1), [0, 1, 3])
        self.assertEqual(rota, self.ROTA)


class HoursOf(unittest.TestCase):
    def test_added_up(self):
        self.assertEqual([hours_of(WARD, TABLE, hand) for hand in range(3)], [20, 16, 0])

    def test_of_a_whole_month(self):
        ward = Ward(31, [0], [(0, 10 ** 9, 0)])
        self.assertEqual(hours_of(ward, [[1] * 31], 0), 31 * 10 ** 9)

    def test_posts_without_hours(self):
        self.assertEqual(hours_of(Ward(2, [0], [(0, 0, 1)]), [[1, 1]], 0), 0)

    def test_is_an_int_and_changes_nothing(self):
        rota = copy_of(TABLE)
        for hand in range(3):
            self.assertIs(type(hours_of(WARD, rota, hand)), int)
        self.assertEqual(rota, TABLE)


class Changed(unittest.TestCase):
    def test_nothing(self):
        self.assertEqual(changed(TABLE, copy_of(TABLE)), [])
        self.assertEqual(changed([], []), [])

    def test_day_by_day_the_hands_rising(self):
        self.assertEqual(
            changed([[0, 1, 0], [2, 0, 1], [0, 0, 1]], [[1, 1, 2], [2, 1, 0], [1, 0, 0]]),
            [(0, 0), (2, 0), (1, 1), (0, 2), (1, 2), (2, 2)],
        )

    def test_all_cells(self):
        ward = Ward(31, [0] * 8, [(0, 8, 0)])
        full = [[1] * 31 for hand in range(8)]
        self.assertEqual(changed(blank(ward), full), cells(ward))
        self.assertEqual(changed(full, blank(ward)), cells(ward))

    def test_one_post_for_another(self):
        self.assertEqual(changed([[1, 2]], [[2, 2]]), [(0, 0)])

    def test_is_the_askers_own(self):
        first = copy_of(TABLE)
        second = blank(WARD)
        given = changed(first, second)
        self.assertEqual(given, [(0, 0), (1, 1), (0, 2), (1, 2)])
        self.assertEqual({type(cell) for cell in given}, {tuple})
        given.clear()
        self.assertEqual(len(changed(first, second)), 4)
        self.assertEqual((first, second), (TABLE, blank(WARD)))


class Exchanged(unittest.TestCase):
    ROTA = [[1, 0, 2], [0, 1, 1], [2, 2, 0]]

    def test_some_days(self):
        self.assertEqual(exchanged(self.ROTA, 0, 1, 0b101), [[0, 0, 1], [1, 1, 2], [2, 2, 0]])
        self.assertEqual(exchanged(self.ROTA, 2, 0, 0b010), [[1, 2, 2], [0, 1, 1], [2, 0, 0]])

    def test_all_days(self):
        self.assertEqual(exchanged(self.ROTA, 0, 2, 0b111), [[2, 2, 0], [0, 1, 1], [1, 0, 2]])

    def test_the_empty_set(self):
        self.assertEqual(exchanged(self.ROTA, 0, 1, 0), self.ROTA)

    def test_days_beyond_the_month(self):
        self.assertEqual(exchanged(self.ROTA, 0, 1, 0b1000), self.ROTA)
        self.assertEqual(exchanged(self.ROTA, 0, 1, 2 ** 39), self.ROTA)
        self.assertEqual(exchanged(self.ROTA, 0, 1, 2 ** 40 - 1), [[0, 1, 1], [1, 0, 2], [2, 2, 0]])
        self.assertEqual(exchanged(self.ROTA, 0, 1, 2 ** 39 + 0b100), [[1, 0, 1], [0, 1, 2], [2, 2, 0]])

    def test_a_hand_with_itself(self):
        for hand in range(3):
            self.assertEqual(exchanged(self.ROTA, hand, hand, 0b111), self.ROTA)

    def test_twice_is_the_first_again_and_either_may_be_named_first(self):
        for hand, other in itertools.product(range(3), repeat=2):
            for days in (0, 0b001, 0b110, 0b111, 0b1010, 2 ** 40 - 1):
                once = exchanged(self.ROTA, hand, other, days)
                self.assertEqual(exchanged(once, hand, other, days), self.ROTA)
                self.assertEqual(exchanged(self.ROTA, other, hand, days), once)

    def test_what_comes_need_be_no_table(self):
        mixed = exchanged(TABLE, 0, 2, 0b001)
        self.assertEqual(mixed, [[0, 0, 2], [0, 1, 1], [1, 0, 0]])
        self.assertIs(is_table(WARD, mixed), False)

    def test_is_the_askers_own(self):
        rota = copy_of(self.ROTA)
        for days in (0, 0b001, 0b1000):
            given = exchanged(rota, 0, 1, days)
            self.assertEqual(rota, self.ROTA)
            for row in given:
                row[0] = 9
                row.append(9)
            given.append([])
            self.assertEqual(rota, self.ROTA)


if __name__ == "__main__":
    unittest.main()
