"""Lines over tables, lines added up, and cases that they close (points 2, 3, 21, 22 and 23)."""

import itertools
import unittest

from rotaward.lines import best, closes, kept, summed, total
from rotaward.wards import Ward

GREAT = 10 ** 60

# The first hand can hold both posts, the second the first alone.
WARD = Ward(2, [0b11, 0b01], [(0b01, 8, 0), (0b10, 12, 1)])
NO_HANDS = Ward(3, [], [(0, 8, 0)])
ROTA = [[1, 0, 2], [0, 1, 1]]


def copy_of(rota):
    return [list(row) for row in rota]


def tables(ward):
    rows = [itertools.product(ward.choices(hand), repeat=ward.days) for hand in range(len(ward.hands))]
    return [[list(row) for row in rota] for rota in itertools.product(*rows)]


def agrees(rota, pins):
    return all(rota[hand][day] == value for (hand, day), value in pins.items())


def reached(rota, numbers):
    return sum(number for (hand, day, post), number in numbers.items() if rota[hand][day] == post)


def greatest(ward, pins, numbers):
    return max(reached(rota, numbers) for rota in tables(ward) if agrees(rota, pins))


def without_noughts(numbers):
    return {key: number for key, number in numbers.items() if number != 0}


class Total(unittest.TestCase):
    def test_no_parts(self):
        self.assertEqual(total(ROTA, ()), 0)
        self.assertEqual(total([], ()), 0)
        self.assertIs(type(total(ROTA, ())), int)

    def test_a_part_that_counts(self):
        self.assertEqual(total(ROTA, ((0, 0, 1, 5),)), 5)
        self.assertEqual(total(ROTA, ((0, 2, 2, 5),)), 5)
        self.assertEqual(total(ROTA, ((1, 2, 1, 5),)), 5)

    def test_parts_that_do_not_count(self):
        self.assertEqual(total(ROTA, ((0, 0, 2, 5), (0, 2, 1, 7), (1, 1, 2, 9), (0, 0, 0, 3))), 0)
        self.assertEqual(total(ROTA, ((0, 0, 9, 5), (0, 0, -1, 5))), 0)

    def test_off(self):
        self.assertEqual(total(ROTA, ((0, 1, 0, 4), (1, 0, 0, 3))), 7)
        self.assertEqual(total(ROTA, ((0, 1, 1, 4), (1, 0, 1, 3))), 0)

    def test_several_are_added_up(self):
        self.assertEqual(total(ROTA, ((0, 0, 1, 5), (0, 0, 2, 50), (1, 1, 1, 7), (0, 1, 0, 11), (1, 1, 0, 90))), 23)

    def test_told_twice_counts_twice(self):
        self.assertEqual(total(ROTA, ((0, 0, 1, 5), (0, 0, 1, 5))), 10)
        self.assertEqual(total(ROTA, ((0, 0, 1, 5), (1, 1, 1, 1), (0, 0, 1, -3), (0, 0, 1, 5))), 8)

    def test_numbers_below_nought_and_very_great_ones(self):
        self.assertEqual(total(ROTA, ((0, 0, 1, -5),)), -5)
        self.assertEqual(total(ROTA, ((0, 0, 1, 0),)), 0)
        self.assertEqual(total(ROTA, ((0, 0, 1, GREAT), (1, 1, 1, 1))), GREAT + 1)
        self.assertEqual(total(ROTA, ((0, 0, 1, -GREAT), (1, 1, 1, -1))), -GREAT - 1)
        self.assertEqual(total(ROTA, ((0, 0, 1, GREAT), (1, 1, 1, -GREAT))), 0)

    def test_hands_and_days_that_are_not_there_hold_nothing(self):
        self.assertEqual(total(ROTA, ((2, 0, 1, 5), (-1, 1, 1, 5), (0, 3, 0, 5), (0, -1, 2, 5))), 0)

    def test_leaves_all_as_it_was(self):
        rota = copy_of(ROTA)
        self.assertEqual(total(rota, ((0, 0, 1, 5), (0, 1, 0, 2))), 7)
        self.assertEqual(rota, ROTA)
        rota[0][0] = 0
        self.assertEqual(total(rota, ((0, 0, 1, 5), (0, 1, 0, 2))), 2)


class Kept(unittest.TestCase):
    PARTS = ((0, 0, 1, 5), (1, 1, 1, -2), (0, 2, 1, 100))

    def test_at_the_bound_one_above_and_one_below(self):
        self.assertIs(kept(ROTA, (self.PARTS, 3)), True)
        self.assertIs(kept(ROTA, (self.PARTS, 2)), True)
        self.assertIs(kept(ROTA, (self.PARTS, 4)), False)

    def test_below_nought(self):
        parts = ((0, 0, 1, -5),)
        self.assertIs(kept(ROTA, (parts, -5)), True)
        self.assertIs(kept(ROTA, (parts, -6)), True)
        self.assertIs(kept(ROTA, (parts, -4)), False)

    def test_very_great(self):
        parts = ((0, 0, 1, GREAT),)
        self.assertIs(kept(ROTA, (parts, GREAT)), True)
        self.assertIs(kept(ROTA, (parts, GREAT - 1)), True)
        self.assertIs(kept(ROTA, (parts, GREAT + 1)), False)

    def test_no_parts(self):
        self.assertIs(kept(ROTA, ((), 0)), True)
        self.assertIs(kept(ROTA, ((), -1)), True)
        self.assertIs(kept(ROTA, ((), 1)), False)
        self.assertIs(kept([], ((), 0)), True)


class Summed(unittest.TestCase):
    FIRST = (((0, 0, 1, 5), (1, 1, 0, -2)), 3)
    SECOND = (((1, 1, 0, 7), (0, 0, 2, 1)), -4)

    def test_no_lines(self):
        self.assertEqual(summed([]), ({}, 0))
        given = summed([])
        self.assertEqual([type(thing) for thing in given], [dict, int])

    def test_one_line_once(self):
        self.assertEqual(summed([(self.FIRST, 1)]), ({(0, 0, 1): 5, (1, 1, 0): -2}, 3))

    def test_several_lines(self):
        self.assertEqual(
            summed([(self.FIRST, 2), (self.SECOND, 3)]), ({(0, 0, 1): 10, (1, 1, 0): 17, (0, 0, 2): 3}, -6)
        )

    def test_nought_times(self):
        numbers, bound = summed([(self.FIRST, 0)])
        self.assertEqual((without_noughts(numbers), bound), ({}, 0))
        numbers, bound = summed([(self.FIRST, 0), (self.SECOND, 1)])
        self.assertEqual((without_noughts(numbers), bound), ({(1, 1, 0): 7, (0, 0, 2): 1}, -4))

    def test_times_below_nought(self):
        self.assertEqual(summed([(self.FIRST, -2)]), ({(0, 0, 1): -10, (1, 1, 0): 4}, -6))

    def test_the_same_line_twice(self):
        self.assertEqual(summed([(self.FIRST, 1), (self.FIRST, 4)]), summed([(self.FIRST, 5)]))
        numbers, bound = summed([(self.FIRST, 3), (self.FIRST, -3)])
        self.assertEqual((without_noughts(numbers), bound), ({}, 0))

    def test_a_part_told_twice_in_one_line(self):
        line = (((0, 0, 1, 5), (0, 0, 1, 6)), 2)
        self.assertEqual(summed([(line, 3)]), ({(0, 0, 1): 33}, 6))

    def test_a_line_without_parts(self):
        self.assertEqual(summed([(((), 7), 3)]), ({}, 21))

    def test_very_great(self):
        great = (((0, 0, 1, GREAT),), -GREAT)
        small = (((0, 0, 1, 1),), 1)
        numbers, bound = summed([(great, GREAT), (small, 1)])
        self.assertEqual(numbers, {(0, 0, 1): GREAT * GREAT + 1})
        self.assertEqual(bound, 1 - GREAT * GREAT)

    def test_as_the_lines_come_to_over_a_table(self):
        for first, second in itertools.product(range(-2, 3), repeat=2):
            numbers, bound = summed([(self.FIRST, first), (self.SECOND, second)])
            self.assertEqual(bound, 3 * first - 4 * second)
            for rota in tables(WARD):
                told = first * total(rota, self.FIRST[0]) + second * total(rota, self.SECOND[0])
                self.assertEqual(reached(rota, numbers), told)

    def test_their_kinds(self):
        given = summed([(self.FIRST, 1), (self.SECOND, 2)])
        self.assertIs(type(given), tuple)
        self.assertEqual({type(key) for key in given[0]}, {tuple})
        self.assertEqual({type(number) for number in given[0].values()}, {int})
        self.assertIs(type(given[1]), int)

    def test_is_the_askers_own(self):
        pairs = [(self.FIRST, 1)]
        given = summed(pairs)
        given[0][(0, 0, 1)] = 99
        given[0][(5, 5, 5)] = 1
        self.assertEqual(pairs, [(self.FIRST, 1)])
        again = summed(pairs)
        self.assertEqual(again, ({(0, 0, 1): 5, (1, 1, 0): -2}, 3))
        pairs.append((self.SECOND, 1))
        self.assertEqual(again, ({(0, 0, 1): 5, (1, 1, 0): -2}, 3))


class Best(unittest.TestCase):
    NUMBERS = {
        (0, 0, 0): -3, (0, 0, 1): 4, (0, 0, 2): 9, (0, 1, 1): -5, (0, 1, 2): -1, (1, 0, 0): -2, (1, 0, 1): -6,
        (1, 1, 0): 5, (1, 1, 1): 2, (1, 1, 2): 1000,
    }

    def test_no_numbers(self):
        self.assertEqual(best(WARD, {}, {}), 0)
        self.assertEqual(best(WARD, {(0, 0): 2, (1, 1): 0}, {}), 0)
        self.assertIs(type(best(WARD, {}, {})), int)

    def test_no_pins(self):
        self.assertEqual(best(WARD, {}, self.NUMBERS), 9 + 0 - 2 + 5)

    def test_a_pin_decides_its_cell(self):
        self.assertEqual(best(WARD, {(0, 0): 1}, self.NUMBERS), 4 + 0 - 2 + 5)
        self.assertEqual(best(WARD, {(0, 0): 0}, self.NUMBERS), -3 + 0 - 2 + 5)
        self.assertEqual(best(WARD, {(0, 1): 1}, self.NUMBERS), 9 - 5 - 2 + 5)
        self.assertEqual(best(WARD, {(1, 0): 1, (1, 1): 1}, self.NUMBERS), 9 + 0 - 6 + 2)

    def test_a_pinned_value_without_a_number(self):
        self.assertEqual(best(WARD, {(0, 0): 1}, {(0, 0, 2): 7, (0, 0, 0): 3}), 0)
        self.assertEqual(best(WARD, {(0, 0): 1}, {(0, 0, 2): -7, (0, 0, 0): -3}), 0)

    def test_all_cells_pinned(self):
        for rota in tables(WARD):
            pins = {(hand, day): rota[hand][day] for hand in range(2) for day in range(2)}
            self.assertEqual(best(WARD, pins, self.NUMBERS), reached(rota, self.NUMBERS))

    def test_numbers_for_off(self):
        self.assertEqual(best(WARD, {}, {(0, 0, 0): 6}), 6)
        self.assertEqual(best(WARD, {(0, 0): 2}, {(0, 0, 0): 6}), 0)
        self.assertEqual(best(WARD, {}, {(0, 0, 0): -6}), 0)

    def test_below_nought_for_each_choice(self):
        self.assertEqual(best(WARD, {}, {(0, 0, 0): -6, (0, 0, 1): -4, (0, 0, 2): -5}), -4)
        self.assertEqual(best(WARD, {}, {(1, 0, 0): -6, (1, 0, 1): -4, (1, 0, 2): 5}), -4)

    def test_posts_that_the_hand_can_not_have(self):
        self.assertEqual(best(WARD, {}, {(1, 0, 2): 50, (1, 1, 2): 50, (0, 0, 3): 50}), 0)
        self.assertEqual(best(Ward(2, [7], []), {}, {(0, 0, 1): 50, (0, 1, 0): 2}), 2)

    def test_no_hands(self):
        self.assertEqual(best(NO_HANDS, {}, {}), 0)
        self.assertEqual(best(NO_HANDS, {}, {(0, 0, 0): 5, (0, 1, 1): 7}), 0)

    def test_cells_that_are_none_of_the_wards(self):
        numbers = {(2, 0, 0): 9, (-1, 0, 0): 9, (0, 2, 0): 9, (1, -1, 0): 9, (0, 2, 1): -9, (2, 1, 1): 9, (0, 1, 1): 4}
        self.assertEqual(best(WARD, {}, numbers), 4)
        self.assertEqual(best(WARD, {(0, 1): 0, (1, 1): 1}, numbers), 0)

    def test_very_great(self):
        numbers = {(0, 0, 1): GREAT, (0, 0, 2): GREAT + 1, (1, 1, 0): -GREAT, (1, 1, 1): -GREAT - 1}
        self.assertEqual(best(WARD, {}, numbers), 1)
        self.assertEqual(best(WARD, {(0, 0): 1}, numbers), 0)

    def test_the_greatest_total_of_a_table_that_agrees(self):
        options = [[None] + WARD.choices(hand) for hand in (0, 1) for day in (0, 1)]
        for told in itertools.product(*options):
            pins = {divmod(place, 2): value for place, value in enumerate(told) if value is not None}
            for step in range(1, 5):
                numbers = {key: (number * step * step) % 11 - 5 for key, number in self.NUMBERS.items()}
                self.assertEqual(best(WARD, pins, numbers), greatest(WARD, pins, without_other_posts(numbers)))

    def test_leaves_all_as_it_was(self):
        pins = {(0, 0): 1, (1, 1): 0}
        numbers = dict(self.NUMBERS)
        first = best(WARD, pins, numbers)
        self.assertEqual(best(WARD, pins, numbers), first)
        self.assertEqual(pins, {(0, 0): 1, (1, 1): 0})
        self.assertEqual(numbers, self.NUMBERS)
        self.assertIs(type(first), int)


def without_other_posts(numbers):
    return {key: number for key, number in numbers.items() if key[2] in WARD.choices(key[0])}


class Closes(unittest.TestCase):
    # At most one of the first hand's two days, and at least both.
    MOST = (((0, 0, 1, -1), (0, 0, 2, -1), (0, 1, 1, -1), (0, 1, 2, -1)), -1)
    LEAST = (((0, 0, 1, 1), (0, 0, 2, 1), (0, 1, 1, 1), (0, 1, 2, 1)), 2)

    def test_just_so_and_missed_by_one(self):
        parts = ((0, 0, 1, 3), (1, 1, 1, 4), (1, 1, 2, 9))
        self.assertIs(closes(WARD, {}, [((parts, 8), 1)]), True)
        self.assertIs(closes(WARD, {}, [((parts, 7), 1)]), False)
        self.assertIs(closes(WARD, {}, [((parts, 6), 1)]), False)

    def test_under_pins(self):
        line = (((0, 0, 1, 3), (1, 1, 1, 4)), 7)
        self.assertIs(closes(WARD, {(0, 0): 1, (1, 1): 1}, [(line, 1)]), False)
        self.assertIs(closes(WARD, {(0, 0): 2}, [(line, 1)]), True)
        self.assertIs(closes(WARD, {(1, 1): 0}, [(line, 1)]), True)
        self.assertIs(closes(WARD, {(0, 1): 0, (1, 0): 1}, [(line, 1)]), False)

    def test_lines_that_close_only_together(self):
        self.assertIs(closes(WARD, {}, [(self.MOST, 1)]), False)
        self.assertIs(closes(WARD, {}, [(self.LEAST, 1)]), False)
        self.assertIs(closes(WARD, {}, [(self.MOST, 1), (self.LEAST, 1)]), True)

    def test_how_many_times_counts(self):
        self.assertIs(closes(WARD, {}, [(self.MOST, 3), (self.LEAST, 3)]), True)
        self.assertIs(closes(WARD, {}, [(self.MOST, 2), (self.LEAST, 1)]), False)
        self.assertIs(closes(WARD, {}, [(self.MOST, 0), (self.LEAST, 1)]), False)
        self.assertIs(closes(WARD, {}, [(self.LEAST, 1), (self.LEAST, -1)]), False)
        self.assertIs(closes(WARD, {}, [(((), -1), -1)]), True)

    def test_no_lines_close_nothing(self):
        self.assertIs(closes(WARD, {}, []), False)
        self.assertIs(closes(NO_HANDS, {}, []), False)
        self.assertIs(closes(WARD, {(0, 0): 1}, []), False)

    def test_no_hands(self):
        line = (((0, 0, 1, 1),), 1)
        self.assertIs(closes(NO_HANDS, {}, [(line, 1)]), True)
        self.assertIs(closes(NO_HANDS, {}, [(((), 0), 1)]), False)

    def test_very_great(self):
        line = (((0, 0, 1, GREAT),), GREAT + 1)
        self.assertIs(closes(WARD, {}, [(line, GREAT)]), True)
        self.assertIs(closes(WARD, {}, [((line[0], GREAT), GREAT)]), False)

    def test_no_table_of_a_closed_case_keeps_all(self):
        for values in itertools.product((None, 0, 1, 2), repeat=2):
            pins = {(0, day): value for day, value in enumerate(values) if value is not None}
            for line in (self.MOST, self.LEAST):
                agreeing = [rota for rota in tables(WARD) if agrees(rota, pins)]
                self.assertIs(closes(WARD, pins, [(line, 1)]), not any(kept(rota, line) for rota in agreeing))

    def test_leaves_all_as_it_was(self):
        pins = {(0, 0): 1}
        pairs = [(self.MOST, 1), (self.LEAST, 1)]
        closes(WARD, pins, pairs)
        self.assertEqual(pins, {(0, 0): 1})
        self.assertEqual(pairs, [(self.MOST, 1), (self.LEAST, 1)])


if __name__ == "__main__":
    unittest.main()
