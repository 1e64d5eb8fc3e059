"""One more seat filled, and all that can be (points 2, 41, 43 and 44)."""

import itertools
import random
import unittest

from rotaward.cuts import is_filling
from rotaward.flows import filled, one_more

GREAT = 10 ** 9


def is_one(seats, slots, caps, where):
    """Whether where is a filling: by the words of the document alone."""
    if len(where) != len(seats):
        return False
    taken = [0] * len(slots)
    borne = [0] * len(caps)
    for seat, slot in enumerate(where):
        if slot is not None:
            if slot not in seats[seat]:
                return False
            taken[slot] = taken[slot] + 1
            borne[slots[slot][0]] = borne[slots[slot][0]] + 1
    return all(many <= slot[1] for many, slot in zip(taken, slots)) and all(many <= cap for many, cap in zip(borne, caps))


def fillings(seats, slots, caps):
    return [list(where) for where in itertools.product(*[[None] + seat for seat in seats])
            if is_one(seats, slots, caps, list(where))]


def filled_in(where):
    return [seat for seat, slot in enumerate(where) if slot is not None]


def borne(seats, slots, caps, some):
    told = 0
    for owner, cap in enumerate(caps):
        asked = [min(slots[slot][1], len([seat for seat in some if slot in seats[seat]]))
                 for slot in range(len(slots)) if slots[slot][0] == owner]
        told = told + min([cap, sum(asked)])
    return told


def of_chance(chance):
    many = chance.randrange(5)
    owners = chance.randrange(1, 4)
    seats = [chance.sample(range(many), chance.randrange(many + 1)) for seat in range(chance.randrange(6))]
    slots = [(chance.randrange(owners), chance.choice((0, 1, 1, 2, GREAT))) for slot in range(many)]
    return seats, slots, [chance.choice((0, 1, 1, 2, 3, GREAT)) for owner in range(owners)]


class OneMore(unittest.TestCase):
    def more(self, seats, slots, caps, where, seat):
        """Asks, and sees that what is told is a filling of just the seats that it must be of."""
        handed = ([list(choices) for choices in seats], list(slots), list(caps), list(where))
        told = one_more(*handed, seat)
        self.assertEqual(handed, (seats, slots, caps, where))
        if told is not None:
            self.assertIs(type(told), list)
            self.assertTrue(is_one(seats, slots, caps, told), told)
            self.assertEqual(filled_in(told), sorted(filled_in(where) + [seat]))
            self.assertLessEqual({type(slot) for slot in told}, {int, type(None)})
        return told

    def test_at_once(self):
        self.assertEqual(self.more([[0]], [(0, 1)], [1], [None], 0), [0])
        self.assertEqual(self.more([[0], [1]], [(0, 1), (0, 1)], [2], [0, None], 1), [0, 1])
        self.assertEqual(self.more([[1, 0], [0]], [(0, 1), (0, 1)], [2], [None, 0], 0), [1, 0])

    def test_another_one_changes_its_slot(self):
        self.assertEqual(self.more([[0], [0, 1]], [(0, 1), (0, 1)], [2], [None, 0], 0), [0, 1])
        self.assertEqual(self.more([[0], [1, 0]], [(1, 1), (0, 1)], [2, 1], [None, 0], 0), [0, 1])

    def test_several_change_their_slots(self):
        seats = [[0], [0, 1], [1, 2], [2, 3], [3, 4]]
        slots = [(slot % 2, 1) for slot in range(5)]
        self.assertEqual(self.more(seats, slots, [3, 2], [None, 0, 1, 2, 3], 0), [0, 1, 2, 3, 4])
        self.assertIsNone(self.more(seats, slots, [2, 2], [None, 0, 1, 2, 3], 0))
        self.assertIsNone(self.more([[0], [0, 1], [1, 2], [2, 3], [3]], slots, [3, 2], [None, 0, 1, 2, 3], 0))

    def test_very_many_change_their_slots(self):
        many = 299
        seats = [[0]] + [[slot, slot + 1] for slot in range(many)]
        slots = [(0, 1)] * (many + 1)
        where = [None] + list(range(many))
        self.assertEqual(self.more(seats, slots, [GREAT], where, 0), list(range(many + 1)))
        self.assertEqual(self.more(seats, slots, [many + 1], where, 0), list(range(many + 1)))
        self.assertIsNone(self.more(seats, slots, [many], where, 0))

    def test_room_is_made_at_the_owner(self):
        # The first owner has a free slot, but bears no more: another one of its seats goes to the second owner.
        seats = [[0], [1, 2]]
        slots = [(0, 1), (0, 1), (1, 1)]
        self.assertEqual(self.more(seats, slots, [1, 1], [None, 1], 0), [0, 2])
        self.assertIsNone(self.more(seats, slots, [1, 0], [None, 1], 0))
        self.assertEqual(self.more(seats, slots, [2, 0], [None, 1], 0), [0, 1])

    def test_room_is_made_at_several_owners(self):
        # From owner to owner: each seat leaves one for a free slot of the next.
        seats = [[0], [1, 2], [3, 4], [5, 6]]
        slots = [(0, 1), (0, 1), (1, 1), (1, 1), (2, 1), (2, 1), (3, 1)]
        self.assertEqual(self.more(seats, slots, [1, 1, 1, 1], [None, 1, 3, 5], 0), [0, 2, 4, 6])
        self.assertIsNone(self.more(seats, slots, [1, 1, 1, 0], [None, 1, 3, 5], 0))

    def test_a_full_slot_and_a_full_owner(self):
        # The slot is full: only who sits there makes room, not who sits at the owner's other slot.
        seats = [[0], [0], [1, 2]]
        slots = [(0, 1), (0, 1), (1, 1)]
        self.assertIsNone(self.more(seats, slots, [2, 1], [None, 0, 1], 0))
        self.assertIsNone(self.more(seats, slots, [9, 1], [None, 0, 1], 0))

    def test_a_change_within_one_owner(self):
        seats = [[0], [0, 1]]
        slots = [(0, 1), (0, 1)]
        self.assertIsNone(self.more(seats, slots, [1], [None, 0], 0))
        self.assertEqual(self.more(seats, slots, [2], [None, 0], 0), [0, 1])

    def test_where_it_can_not_be(self):
        self.assertIsNone(self.more([[]], [], [], [None], 0))
        self.assertIsNone(self.more([[]], [(0, 1)], [1], [None], 0))
        self.assertIsNone(self.more([[0]], [(0, 0)], [1], [None], 0))
        self.assertIsNone(self.more([[0]], [(0, 1)], [0], [None], 0))
        self.assertIsNone(self.more([[0], [0]], [(0, 1)], [2], [None, 0], 0))
        self.assertIsNone(self.more([[0], [0]], [(0, 2)], [1], [0, None], 1))

    def test_other_empty_seats_stay_empty(self):
        seats = [[0, 1], [0, 1], [0, 1], []]
        told = self.more(seats, [(0, 9), (0, 9)], [9], [None, 0, None, None], 2)
        self.assertEqual((told[0], told[3]), (None, None))

    def test_of_all_small_fillings(self):
        chance = random.Random(44)
        seen = []
        for number in range(200):
            seats, slots, caps = of_chance(chance)
            found = fillings(seats, slots, caps)
            sets = [filled_in(where) for where in found]
            for where in chance.sample(found, min(len(found), 12)):
                for seat in range(len(seats)):
                    if where[seat] is None:
                        told = self.more(seats, slots, caps, where, seat)
                        seen.append(told is None)
                        self.assertIs(told is None, sorted(filled_in(where) + [seat]) not in sets)
        self.assertGreater(seen.count(True), 200)
        self.assertGreater(seen.count(False), 200)

    def test_is_the_askers_own(self):
        where = [None, 0]
        told = one_more([[0], [0, 1]], [(0, 1), (0, 1)], [2], where, 0)
        self.assertEqual(told, [0, 1])
        told[1] = None
        told.append(3)
        self.assertEqual(where, [None, 0])
        again = one_more([[0], [0, 1]], [(0, 1), (0, 1)], [2], where, 0)
        where[1] = None
        self.assertEqual(again, [0, 1])


class Filled(unittest.TestCase):
    def fill(self, seats, slots, caps):
        handed = ([list(choices) for choices in seats], list(slots), list(caps))
        told = filled(*handed)
        self.assertEqual(handed, (seats, slots, caps))
        where, short = told
        self.assertEqual((type(told), type(where), type(short)), (tuple, list, list))
        self.assertEqual({type(slot) for slot in where} - {int, type(None)}, set())
        self.assertEqual({type(seat) for seat in short} - {int}, set())
        self.assertTrue(is_one(seats, slots, caps, where))
        self.assertEqual(short, sorted(set(short)))
        self.assertEqual([seat for seat in short if seat not in range(len(seats))], [])
        self.assertEqual(len(seats) - len(filled_in(where)), len(short) - borne(seats, slots, caps, short))
        self.assertIs(is_filling(seats, slots, caps, where, short), True)
        return where

    def test_nothing(self):
        self.assertEqual(filled([], [], []), ([], []))
        self.assertEqual(filled([], [(0, 3)], [3]), ([], []))
        self.assertEqual(self.fill([[], []], [], []), [None, None])
        self.assertEqual(self.fill([[], []], [(0, 3)], [3, 9]), [None, None])

    def test_all_can_be(self):
        self.assertEqual(self.fill([[0], [1]], [(0, 1), (0, 1)], [2]), [0, 1])
        self.assertEqual(self.fill([[0, 1], [0]], [(0, 1), (0, 1)], [2]), [1, 0])
        self.assertEqual(self.fill([[0], [0], [0]], [(0, GREAT)], [GREAT]), [0, 0, 0])
        self.assertEqual(self.fill([[1, 0], [1, 2], [1]], [(0, 1), (1, 1), (0, 1)], [2, 1]), [0, 2, 1])

    def test_some_can_be(self):
        self.assertEqual(len(filled_in(self.fill([[0]] * 5, [(0, 3)], [9]))), 3)
        self.assertEqual(len(filled_in(self.fill([[0]] * 5, [(0, 9)], [2]))), 2)
        self.assertEqual(len(filled_in(self.fill([[0, 1]] * 5, [(0, 1), (1, 9)], [2, 3]))), 4)
        self.assertEqual(self.fill([[0], [0], [1]], [(0, 0), (0, 5)], [5]), [None, None, 1])

    def test_caps_of_nought(self):
        self.assertEqual(self.fill([[0], [0, 1]], [(0, 0), (0, 0)], [5]), [None, None])
        self.assertEqual(self.fill([[0], [0, 1]], [(0, 5), (0, 5)], [0]), [None, None])

    def test_an_owner_with_several_slots(self):
        seats = [[0, 1, 2], [2], [1, 0], [0], [3]]
        slots = [(0, 1), (0, 1), (0, 1), (1, 1)]
        self.assertEqual(len(filled_in(self.fill(seats, slots, [3, 1]))), 4)
        self.assertEqual(len(filled_in(self.fill(seats, slots, [2, 1]))), 3)
        self.assertEqual(len(filled_in(self.fill(seats, slots, [1, 0]))), 1)

    def test_of_all_small_ones(self):
        chance = random.Random(45)
        short = 0
        for number in range(600):
            seats, slots, caps = of_chance(chance)
            where = self.fill(seats, slots, caps)
            most = max(len(filled_in(other)) for other in fillings(seats, slots, caps))
            self.assertEqual(len(filled_in(where)), most)
            short = short + (most < len(seats))
        self.assertTrue(100 < short < 550, short)

    def test_ordinary_ones(self):
        # A ward's days: each seat is wanted on one day, each slot a hand's day, each owner a hand.
        chance = random.Random(46)
        for number in range(30):
            slots = [(slot % 8, 1) for slot in range(8 * 31)]
            seats = []
            for day in range(31):
                for place in range(chance.randrange(8)):
                    hands = chance.sample(range(8), chance.randrange(1, 8))
                    seats.append([day * 8 + hand for hand in hands])
            self.fill(seats, slots, [chance.randrange(5, 32) for hand in range(8)])

    def test_large_ones(self):
        chance = random.Random(47)
        for width in (1, 2, 5, 40, 300):
            seats = [chance.sample(range(300), width) for seat in range(1500)]
            slots = [(chance.randrange(40), chance.choice((0, 1, 4, 6, 9, GREAT))) for slot in range(300)]
            self.fill(seats, slots, [chance.choice((0, 5, 30, 60, GREAT)) for owner in range(40)])

    def test_large_ones_by_stairs(self):
        slots = [(slot % 40, 5) for slot in range(300)]
        for seats in ([list(range(seat // 5 + 1)) for seat in range(1500)],
                      [[seat // 5, min(299, seat // 5 + 1)][:1 + (seat < 1495)] for seat in range(1499, -1, -1)]):
            self.assertEqual(filled_in(self.fill(seats, slots, [40] * 40)), list(range(1500)))
            self.assertLess(len(filled_in(self.fill(seats, slots, [36] * 40))), 1500)

    def test_is_the_askers_own(self):
        seats = [[0], [0]]
        first = filled(seats, [(0, 1)], [1])
        first[0].append(7)
        first[1].clear()
        self.assertEqual(seats, [[0], [0]])
        where, short = filled(seats, [(0, 1)], [1])
        self.assertEqual((len(where), short), (2, [0, 1]))
        seats.clear()
        self.assertEqual((len(where), short), (2, [0, 1]))


if __name__ == "__main__":
    unittest.main()
