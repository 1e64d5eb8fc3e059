"""Seats, slots and owners, what owners bear of some seats, and right pairs (points 2, 41, 42 and 43)."""

import itertools
import random
import unittest

from rotaward.cuts import held, is_filling

# Four seats; the slots 0 and 1 are the first owner's, 2 the second's, 3 (that no seat may take) the third's.
SEATS = [[0, 1], [1], [1, 2, 0], []]
SLOTS = [(0, 1), (0, 2), (1, 5), (2, 4)]
CAPS = [2, 1, 7]
GREAT = 10 ** 9


def is_one(seats, slots, caps, where):
    """Whether where is a filling: by the words of the document alone."""
    if len(where) != len(seats):
        return False
    for seat, slot in enumerate(where):
        if slot is not None and slot not in seats[seat]:
            return False
    for number, (owner, cap) in enumerate(slots):
        if len([slot for slot in where if slot == number]) > cap:
            return False
    for number, cap in enumerate(caps):
        if len([slot for slot in where if slot is not None and slots[slot][0] == number]) > cap:
            return False
    return True


def fillings(seats, slots, caps):
    return [list(where) for where in itertools.product(*[[None] + seat for seat in seats])
            if is_one(seats, slots, caps, list(where))]


def empty_in(where):
    return len([slot for slot in where if slot is None])


def borne(seats, slots, caps, some):
    told = 0
    for owner, cap in enumerate(caps):
        asked = [min(slots[slot][1], len([seat for seat in some if slot in seats[seat]]))
                 for slot in range(len(slots)) if slots[slot][0] == owner]
        told = told + min([cap, sum(asked)])
    return told


def of_chance(chance):
    many = chance.randrange(4)
    owners = chance.randrange(1, 4)
    seats = [chance.sample(range(many), chance.randrange(many + 1)) for seat in range(chance.randrange(5))]
    slots = [(chance.randrange(owners), chance.choice((0, 1, 1, 2, GREAT))) for slot in range(many)]
    return seats, slots, [chance.choice((0, 1, 1, 2, 3, GREAT)) for owner in range(owners)]


class Held(unittest.TestCase):
    def test_of_no_seats(self):
        self.assertEqual(held(SEATS, SLOTS, CAPS, []), 0)
        self.assertEqual(held([], [], [], []), 0)
        self.assertEqual(held([], SLOTS, CAPS, []), 0)
        self.assertIs(type(held([], [], [], [])), int)

    def test_of_some_seats(self):
        self.assertEqual(held(SEATS, SLOTS, CAPS, [1]), 1)
        self.assertEqual(held(SEATS, SLOTS, CAPS, [0]), 2)
        self.assertEqual(held(SEATS, SLOTS, CAPS, [0, 1]), 2)
        self.assertEqual(held(SEATS, SLOTS, CAPS, [2]), 3)
        self.assertEqual(held(SEATS, SLOTS, CAPS, [3]), 0)

    def test_of_all_seats(self):
        self.assertEqual(held(SEATS, SLOTS, CAPS, [0, 1, 2, 3]), 3)

    def test_the_number_of_the_seats_is_the_less(self):
        seats = [[0], [0]]
        self.assertEqual(held(seats, [(0, 5)], [9], [0, 1]), 2)
        self.assertEqual(held(seats, [(0, 5)], [9], [1]), 1)
        self.assertEqual(held(seats, [(0, GREAT)], [GREAT], [0, 1]), 2)

    def test_the_slots_cap_is_the_less(self):
        self.assertEqual(held([[0]] * 4, [(0, 3)], [9], [0, 1, 2, 3]), 3)
        self.assertEqual(held([[0, 1]] * 4, [(0, 3), (0, 1)], [9], [0, 1, 2, 3]), 4)
        self.assertEqual(held([[0, 1]] * 4, [(0, 0), (0, 1)], [9], [0, 1, 2, 3]), 1)

    def test_the_owners_cap_is_the_less(self):
        self.assertEqual(held([[0, 1]] * 4, [(0, 3), (0, 1)], [2], [0, 1, 2, 3]), 2)
        self.assertEqual(held([[0, 1]] * 4, [(0, 3), (0, 1)], [0], [0, 1, 2, 3]), 0)
        self.assertEqual(held([[0, 1]] * 4, [(0, 3), (0, 1)], [3], [0, 1, 2, 3]), 3)
        self.assertEqual(held([[0, 1]] * 4, [(0, 3), (0, 1)], [5], [0, 1, 2, 3]), 4)

    def test_owners_are_added_up(self):
        seats = [[0, 1, 2]] * 3
        self.assertEqual(held(seats, [(0, 1), (1, 2), (2, 9)], [9, 9, 9], [0, 1, 2]), 1 + 2 + 3)
        self.assertEqual(held(seats, [(2, 1), (0, 2), (0, 9)], [4, 9, 9], [0, 1, 2]), 4 + 1)
        self.assertEqual(held(seats, [(1, 1), (1, 2), (1, 9)], [4, 5, 9], [0, 2]), 5)

    def test_owners_without_slots_bear_nothing(self):
        self.assertEqual(held([[0]], [(1, 1)], [7, 7, 7], [0]), 1)

    def test_no_slots(self):
        self.assertEqual(held([[], []], [], [], [0, 1]), 0)
        self.assertEqual(held([[], []], [], [3], [1]), 0)

    def test_seats_that_may_take_nothing(self):
        self.assertEqual(held([[], [0], []], [(0, 9)], [9], [0, 2]), 0)
        self.assertEqual(held([[], [0], []], [(0, 9)], [9], [0, 1, 2]), 1)

    def test_in_any_order(self):
        for many in range(5):
            for some in itertools.permutations(range(4), many):
                self.assertEqual(held(SEATS, SLOTS, CAPS, list(some)), borne(SEATS, SLOTS, CAPS, sorted(some)))

    def test_against_a_reckoning_and_all_fillings(self):
        chance = random.Random(42)
        for number in range(300):
            seats, slots, caps = of_chance(chance)
            found = fillings(seats, slots, caps)
            for many in range(len(seats) + 1):
                for some in itertools.combinations(range(len(seats)), many):
                    told = held(seats, slots, caps, list(some))
                    self.assertEqual(told, borne(seats, slots, caps, some))
                    self.assertIs(type(told), int)
                    for where in found:
                        self.assertLessEqual(len([seat for seat in some if where[seat] is not None]), told)

    def test_leaves_all_as_it_was(self):
        seats, slots, caps, some = [list(seat) for seat in SEATS], list(SLOTS), list(CAPS), [2, 0]
        self.assertEqual(held(seats, slots, caps, some), 3)
        self.assertEqual((seats, slots, caps, some), (SEATS, SLOTS, CAPS, [2, 0]))
        seats[0].clear()
        some.append(1)
        self.assertEqual(held(seats, slots, caps, some), 3)
        self.assertEqual(held(SEATS, SLOTS, CAPS, [2, 0]), 3)

    def test_large(self):
        seats = [list(range(300))] * 1500
        self.assertEqual(held(seats, [(slot % 40, 4) for slot in range(300)], [25] * 40, list(range(1500))), 1000)
        self.assertEqual(held(seats, [(slot % 40, 4) for slot in range(300)], [GREAT] * 40, list(range(1500))), 1200)


class RightPairs(unittest.TestCase):
    def right(self, where, short, seats=SEATS, slots=SLOTS, caps=CAPS):
        self.assertIs(is_filling(seats, slots, caps, where, short), True, (where, short))

    def wrong(self, where, short, seats=SEATS, slots=SLOTS, caps=CAPS):
        self.assertIs(is_filling(seats, slots, caps, where, short), False, (where, short))

    def test_right_ones(self):
        self.right([0, 1, 2, None], [3])
        self.right([1, 1, 2, None], [3])
        self.right([0, 1, 2, None], [0, 1, 3])
        self.right([0, 1, 2, None], [0, 1, 2, 3])
        self.right([0, 1, 2, None], [1, 3])

    def test_all_filled(self):
        seats = [[0, 1], [0]]
        slots = [(0, 1), (0, 1)]
        self.right([1, 0], [], seats, slots, [2])
        self.right([1, 0], [0, 1], seats, slots, [2])
        self.right([1, 0], [1], seats, slots, [2])
        # The first seat has two slots, which is one more than it takes.
        self.wrong([1, 0], [0], seats, slots, [2])

    def test_no_seats(self):
        for slots, caps in (([], []), (SLOTS, CAPS), ([], [3, 0])):
            self.right([], [], [], slots, caps)
            self.wrong([None], [], [], slots, caps)
            self.wrong([0], [], [], slots, caps)
            self.wrong([], [0], [], slots, caps)
            self.wrong([], [-1], [], slots, caps)

    def test_no_slots_and_no_owners(self):
        self.right([None, None], [0, 1], [[], []], [], [])
        self.wrong([None, None], [0], [[], []], [], [])
        self.wrong([None, None], [], [[], []], [], [])
        self.wrong([0, None], [1], [[], []], [], [])

    def test_too_few_and_too_many_things_in_where(self):
        self.wrong([0, 1, 2], [3])
        self.wrong([0, 1, 2], [])
        self.wrong([], [])
        self.wrong([0, 1, 2, None, None], [3])
        self.wrong([0, 1, 2, None, 2], [3])
        self.wrong([None] * 3, [3])

    def test_numbers_that_are_no_slot_of_the_seats_list(self):
        for where in ([2, 1, 0, None], [0, 0, 2, None], [0, 1, 3, None], [0, 1, 2, 0], [0, 1, 2, 3], [4, 1, 2, None],
                      [0, 1, -1, None], [0, -3, 2, None], [0, 1, -4, None], [0, 1, 10 ** 60, None], [-4, 1, 2, None],
                      [0, 1, -10 ** 60, None], [0, 1, 2, -1]):
            for short in ([3], [], [0, 1, 2, 3]):
                self.wrong(where, short)

    def test_a_slots_cap_passed(self):
        seats = [[0], [0], [0]]
        self.right([0, 0, None], [0, 1, 2], seats, [(0, 2)], [3])
        self.wrong([0, 0, 0], [], seats, [(0, 2)], [3])
        self.right([0, 0, 0], [], seats, [(0, 3)], [3])
        self.wrong([0, None, None], [0, 1, 2], seats, [(0, 0)], [3])
        self.right([None, None, None], [0, 1, 2], seats, [(0, 0)], [3])

    def test_an_owners_cap_passed(self):
        seats = [[0], [1], [1]]
        slots = [(0, 2), (0, 2)]
        self.right([0, 1, None], [0, 1, 2], seats, slots, [2])
        self.wrong([0, 1, 1], [], seats, slots, [2])
        self.right([0, 1, 1], [], seats, slots, [3])
        self.wrong([0, 1, None], [0, 1, 2], seats, slots, [1])
        self.right([None, None, 1], [0, 1, 2], seats, slots, [1])
        self.wrong([0, None, None], [0, 1, 2], seats, slots, [0])

    def test_the_second_owner_and_slot_are_looked_at(self):
        seats = [[0], [1], [1]]
        self.wrong([0, 1, 1], [], seats, [(0, 5), (1, 5)], [5, 1])
        self.wrong([0, 1, 1], [], seats, [(0, 5), (1, 1)], [5, 5])
        self.wrong([0, 1, 1], [], seats, [(1, 5), (0, 5)], [1, 5])
        self.right([0, 1, 1], [], seats, [(0, 5), (1, 5)], [1, 2])

    def test_very_great_caps(self):
        self.right([0, 0], [], [[0], [0]], [(0, GREAT)], [GREAT])
        self.wrong([0, None], [0, 1], [[0], [0]], [(0, GREAT)], [GREAT])

    def test_short_with_the_number_of_no_seat(self):
        for short in ([3, 4], [-1, 3], [-1], [4], [3, 10 ** 60], [-10 ** 60, 3], [-4, 3]):
            self.wrong([0, 1, 2, None], short)

    def test_short_with_a_seat_twice(self):
        self.wrong([0, 1, 2, None], [3, 3])
        self.wrong([0, None, 2, None], [3, 3])
        self.wrong([0, 1, 2, None], [1, 1, 3])
        self.wrong([0, 1, 2, None], [0, 1, 1, 3])

    def test_short_that_does_not_rise(self):
        self.wrong([0, 1, 2, None], [3, 1])
        self.wrong([0, 1, 2, None], [1, 0, 3])
        self.wrong([0, 1, 2, None], [0, 3, 1])

    def test_one_seat_too_few_or_too_many_empty(self):
        for where in ([0, 1, None, None], [None, 1, 2, None], [0, None, None, None], [None] * 4):
            for short in ([3], [0, 1, 3], [], [0, 1, 2, 3]):
                self.wrong(where, short)
        self.wrong([0, 1, 2, None], [])
        self.wrong([0, 1, 2, None], [0])
        self.wrong([0, 1, 2, None], [0, 3])
        # Of three seats that may take one slot two stay empty, not one.
        self.right([0, None, None], [0, 1, 2], [[0]] * 3, [(0, 1)], [9])
        self.wrong([0, None, None], [0, 1], [[0]] * 3, [(0, 1)], [9])
        self.wrong([None, None, None], [0, 1, 2], [[0]] * 3, [(0, 1)], [9])

    def test_no_filling_leaves_fewer_empty(self):
        chance = random.Random(43)
        seen = [0, 0]
        for number in range(150):
            seats, slots, caps = of_chance(chance)
            found = fillings(seats, slots, caps)
            least = min(empty_in(where) for where in found)
            shorts = [list(some) for many in range(len(seats) + 1)
                      for some in itertools.combinations(range(len(seats)), many)]
            for where in itertools.product(*[[None] + list(range(len(slots))) for seat in seats]):
                for short in shorts:
                    told = is_filling(seats, slots, caps, list(where), short)
                    spare = len(short) - borne(seats, slots, caps, short)
                    self.assertIs(told, list(where) in found and empty_in(where) == spare)
                    seen[told] = seen[told] + 1
                    if told:
                        self.assertEqual(empty_in(where), least)
        self.assertGreater(min(seen), 200)

    def test_leaves_all_as_it_was(self):
        handed = ([list(seat) for seat in SEATS], list(SLOTS), list(CAPS), [0, 1, 2, None], [1, 3])
        self.assertIs(is_filling(*handed), True)
        self.assertEqual(handed, (SEATS, SLOTS, CAPS, [0, 1, 2, None], [1, 3]))
        handed[3][0] = None
        self.assertIs(is_filling(*handed), False)

    def test_large(self):
        seats = [[slot % 300, (slot + 1) % 300] for slot in range(1500)]
        slots = [(slot % 40, 4) for slot in range(300)]
        where = [seat % 300 if seat < 1200 else None for seat in range(1500)]
        self.right(where, list(range(1500)), seats, slots, [GREAT] * 40)
        self.wrong(where, list(range(1499)), seats, slots, [GREAT] * 40)
        self.wrong(where, list(range(1500)), seats, slots, [GREAT] * 39 + [1])


if __name__ == "__main__":
    unittest.main()
