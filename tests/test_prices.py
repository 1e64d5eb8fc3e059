"""Dealings, what they cost, what prices are worth, and cheapest dealings (points 2, 45 and 46)."""

import itertools
import random
import unittest

from rotaward.prices import cost_of, is_cheapest, is_dealing, worth

GREAT = 10 ** 12

# Three spots, the first two the first owner's; the second may not be idle, the third only at a cost.
SPOTS = [(0, [(0, 5), (None, 0), (1, 3)]), (0, [(1, 4), (0, 4)]), (1, [(None, 2), (0, 7)])]
COLUMNS = [1, 1]
CAPS = [2, 1]


def offered(spots):
    return [[column for column, cost in offers] for owner, offers in spots]


def expected_cost(spots, dealt):
    return sum(dict(offers)[column] for (owner, offers), column in zip(spots, dealt))


def is_one(spots, columns, caps, dealt):
    """Whether dealt is a dealing: by the words of the document alone."""
    if len(dealt) != len(spots):
        return False
    for (owner, offers), column in zip(spots, dealt):
        if column not in dict(offers):
            return False
    for number, need in enumerate(columns):
        if len([column for column in dealt if column == number]) < need:
            return False
    for number, cap in enumerate(caps):
        if len([spot for spot, column in zip(spots, dealt) if spot[0] == number and column is not None]) > cap:
            return False
    return True


def expected_worth(spots, columns, caps, ys, zs):
    told = 0
    for need, price in zip(columns, ys):
        told = told + need * price
    for cap, price in zip(caps, zs):
        told = told - cap * price
    for owner, offers in spots:
        then = []
        for column, cost in offers:
            then.append(cost if column is None else cost - ys[column] + zs[owner])
        told = told + min(then)
    return told


def of_chance(chance):
    many = chance.randrange(4)
    owners = chance.randrange(1, 3)
    top = chance.choice((1, 3, 9, GREAT))
    spots = []
    for spot in range(chance.randrange(5)):
        columns = chance.sample(list(range(many)) + [None], chance.randrange(1, many + 2))
        spots.append((chance.randrange(owners), [(column, chance.randrange(top + 1)) for column in columns]))
    return spots, [chance.choice((0, 0, 1, 2)) for column in range(many)], [chance.randrange(5) for owner in range(owners)]


def copied(spots):
    return [(owner, list(offers)) for owner, offers in spots]


class Dealings(unittest.TestCase):
    def dealing(self, dealt, spots=SPOTS, columns=COLUMNS, caps=CAPS):
        self.assertIs(is_dealing(spots, columns, caps, dealt), True, dealt)

    def none(self, dealt, spots=SPOTS, columns=COLUMNS, caps=CAPS):
        self.assertIs(is_dealing(spots, columns, caps, dealt), False, dealt)

    def test_some(self):
        self.dealing([0, 1, None])
        self.dealing([1, 0, None])
        self.dealing([1, 1, 0])
        self.dealing([None, 1, 0])
        self.dealing([0, 1, 0])

    def test_too_short_and_too_long(self):
        self.none([])
        self.none([0, 1])
        self.none([0, 1, None, None])
        self.none([0, 1, None, 0])
        self.none([0], [], [], [])
        self.none([None], [], [], [])

    def test_a_column_that_is_not_offered(self):
        self.none([0, 1, 1])
        for column in (2, -1, -2, 3, 10 ** 60, -10 ** 60):
            self.none([column, 1, 0])
            self.none([0, 1, column])
            self.none([0, 1, column], SPOTS, [0, 0], CAPS)

    def test_none_where_it_is_not_offered(self):
        self.none([1, None, 0])
        self.none([1, None, 0], SPOTS, [0, 0], CAPS)

    def test_a_column_below_its_need(self):
        self.none([0, 0, None])
        self.none([None, 1, None])
        self.none([1, 1, None])
        self.none([0, 1, None], SPOTS, [2, 1], CAPS)
        self.dealing([0, 1, 0], SPOTS, [2, 1], CAPS)
        self.none([0, 1, 0], SPOTS, [2, 2], CAPS)
        self.none([0, 1, 0], SPOTS, [10 ** 9, 1], CAPS)
        self.none([0, 1, 0], SPOTS, [1, 1, 1], CAPS)
        self.dealing([0, 1, 0], SPOTS, [1, 1, 0], CAPS)

    def test_more_than_a_column_needs(self):
        self.dealing([0, 0, 0], SPOTS, [0, 0], CAPS)
        self.dealing([0, 0, 0], SPOTS, [1, 0], CAPS)

    def test_an_owner_above_its_cap(self):
        self.none([0, 1, None], SPOTS, COLUMNS, [1, 1])
        self.none([1, 1, 0], SPOTS, COLUMNS, [2, 0])
        self.dealing([None, 1, 0], SPOTS, COLUMNS, [1, 1])
        self.none([None, 1, 0], SPOTS, COLUMNS, [0, 1])
        self.dealing([0, 1, None], SPOTS, COLUMNS, [2, 0])
        self.dealing([0, 1, 0], SPOTS, COLUMNS, [10 ** 9, 10 ** 9])

    def test_idle_spots_are_not_counted(self):
        spots = [(0, [(None, 3)])] * 4
        self.dealing([None] * 4, spots, [], [0])
        self.dealing([None] * 4, spots, [0, 0], [0])
        self.none([None] * 4, spots, [0, 1], [0])

    def test_nothing(self):
        self.dealing([], [], [], [])
        self.dealing([], [], [0, 0], [0, 3])
        self.none([], [], [0, 1], [])

    def test_of_any_list(self):
        chance = random.Random(45)
        seen = [0, 0]
        for number in range(120):
            spots, columns, caps = of_chance(chance)
            for dealt in itertools.product([None, -1] + list(range(len(columns) + 1)), repeat=len(spots)):
                told = is_dealing(spots, columns, caps, list(dealt))
                self.assertIs(told, is_one(spots, columns, caps, dealt))
                seen[told] = seen[told] + 1
        self.assertGreater(min(seen), 100)

    def test_leaves_all_as_it_was(self):
        handed = (copied(SPOTS), list(COLUMNS), list(CAPS), [0, 1, None])
        self.assertIs(is_dealing(*handed), True)
        self.assertEqual(handed, (SPOTS, COLUMNS, CAPS, [0, 1, None]))
        handed[3][1] = 0
        self.assertIs(is_dealing(*handed), False)


class Costs(unittest.TestCase):
    def test_some(self):
        self.assertEqual(cost_of(SPOTS, [0, 1, None]), 5 + 4 + 2)
        self.assertEqual(cost_of(SPOTS, [None, 0, 0]), 0 + 4 + 7)
        self.assertEqual(cost_of(SPOTS, [1, 1, 0]), 3 + 4 + 7)

    def test_nothing(self):
        self.assertEqual(cost_of([], []), 0)
        self.assertIs(type(cost_of([], [])), int)

    def test_idle_has_its_own_cost(self):
        self.assertEqual(cost_of([(0, [(None, 9), (0, 1)])], [None]), 9)
        self.assertEqual(cost_of([(0, [(0, 1), (None, 9)])], [0]), 1)

    def test_of_lists_that_are_no_dealing(self):
        self.assertEqual(cost_of(SPOTS, [None, 1, None]), 0 + 4 + 2)
        self.assertEqual(cost_of(SPOTS, [0, 0, 0]), 5 + 4 + 7)
        for dealt in itertools.product(*offered(SPOTS)):
            told = cost_of(SPOTS, list(dealt))
            self.assertEqual(told, expected_cost(SPOTS, dealt))
            self.assertIs(type(told), int)

    def test_great_costs(self):
        self.assertEqual(cost_of([(0, [(0, GREAT)])] * 300, [0] * 300), 300 * GREAT)
        self.assertEqual(cost_of([(0, [(0, 0)])] * 300, [0] * 300), 0)

    def test_leaves_all_as_it_was(self):
        handed = (copied(SPOTS), [0, 1, None])
        self.assertEqual(cost_of(*handed), 11)
        self.assertEqual(handed, (SPOTS, [0, 1, None]))


class Worth(unittest.TestCase):
    def test_without_prices(self):
        self.assertEqual(worth(SPOTS, COLUMNS, CAPS, [0, 0], [0, 0]), 0 + 4 + 2)
        self.assertEqual(worth([], [], [], [], []), 0)
        self.assertIs(type(worth([], [], [], [], [])), int)

    def test_columns_prices(self):
        # 1 * 3 and 1 * 1; then the spots 0 (idle), 4 - 3, 2 (idle).
        self.assertEqual(worth(SPOTS, COLUMNS, CAPS, [3, 1], [0, 0]), 4 + 0 + 1 + 2)
        self.assertEqual(worth(SPOTS, COLUMNS, CAPS, [6, 0], [0, 0]), 6 + (5 - 6) + (4 - 6) + (7 - 6))
        self.assertEqual(worth(SPOTS, [3, 4], CAPS, [2, 10], [0, 0]), 46 + (3 - 10) + (4 - 10) + 2)

    def test_owners_prices(self):
        self.assertEqual(worth(SPOTS, COLUMNS, CAPS, [0, 0], [1, 0]), -2 + 0 + 5 + 2)
        self.assertEqual(worth(SPOTS, COLUMNS, CAPS, [0, 0], [0, 9]), -9 + 0 + 4 + 2)
        self.assertEqual(worth(SPOTS, COLUMNS, [7, 0], [0, 0], [2, 9]), -14 + 0 + 6 + 2)

    def test_both(self):
        self.assertEqual(worth(SPOTS, COLUMNS, CAPS, [6, 2], [1, 3]), 8 - 5 + (5 - 6 + 1) + (4 - 6 + 1) + 2)
        self.assertEqual(worth(SPOTS, COLUMNS, CAPS, [9, 2], [1, 3]), 11 - 5 + (5 - 9 + 1) + (4 - 9 + 1) + (7 - 9 + 3))

    def test_an_offer_to_none_has_no_price(self):
        self.assertEqual(worth([(0, [(None, 8)])], [2], [3], [100], [10]), 200 - 30 + 8)
        self.assertEqual(worth([(0, [(0, 8)])], [2], [3], [100], [10]), 200 - 30 + (8 - 100 + 10))

    def test_the_price_of_its_own_owner(self):
        spots = [(1, [(0, 5)]), (0, [(0, 5)]), (2, [(0, 5)])]
        self.assertEqual(worth(spots, [0], [0, 0, 0], [0], [1, 10, 100]), 15 + 111)
        self.assertEqual(worth(spots, [0], [1, 2, 3], [0], [1, 10, 100]), 15 + 111 - 321)

    def test_below_nought(self):
        self.assertEqual(worth(SPOTS, COLUMNS, CAPS, [-3, -1], [0, 0]), -4 + 0 + 5 + 2)
        self.assertEqual(worth(SPOTS, COLUMNS, CAPS, [0, 0], [-6, -1]), 13 + (3 - 6) + (4 - 6) + 2)

    def test_great_ones(self):
        great = 10 ** 20
        self.assertEqual(
            worth(SPOTS, [10 ** 9, 0], CAPS, [great, 0], [0, 0]), 10 ** 29 + (5 - great) + (4 - great) + (7 - great)
        )
        self.assertEqual(worth(SPOTS, COLUMNS, [10 ** 9, 0], [0, 0], [great, great]), -10 ** 29 + 0 + 4 + great + 2)

    def test_of_any_whole_numbers(self):
        chance = random.Random(46)
        for number in range(300):
            spots, columns, caps = of_chance(chance)
            ys = [chance.choice((0, 1, 2, 5, 10 ** 20, -1, -7)) for column in columns]
            zs = [chance.choice((0, 1, 2, 5, 10 ** 20, -1, -7)) for cap in caps]
            told = worth(spots, columns, caps, ys, zs)
            self.assertEqual(told, expected_worth(spots, columns, caps, ys, zs))
            self.assertIs(type(told), int)

    def test_no_dealing_costs_less(self):
        chance = random.Random(47)
        for number in range(300):
            spots, columns, caps = of_chance(chance)
            told = worth(spots, columns, caps, [chance.randrange(9) for column in columns],
                         [chance.randrange(9) for cap in caps])
            for dealt in itertools.product(*offered(spots)):
                if is_one(spots, columns, caps, dealt):
                    self.assertLessEqual(told, expected_cost(spots, dealt))

    def test_leaves_all_as_it_was(self):
        handed = (copied(SPOTS), list(COLUMNS), list(CAPS), [6, 2], [1, 3])
        told = worth(*handed)
        self.assertEqual(worth(*handed), told)
        self.assertEqual(handed, (SPOTS, COLUMNS, CAPS, [6, 2], [1, 3]))


class Cheapest(unittest.TestCase):
    # It costs 3 + 4 + 2, and with 3 for either column the prices are worth 3 + 3 + 0 + (4 - 3) + 2.
    DEALT = [1, 0, None]
    YS = [3, 3]

    def told(self, dealt, ys, zs, spots=SPOTS, columns=COLUMNS, caps=CAPS):
        return is_cheapest(spots, columns, caps, dealt, ys, zs)

    def test_right_ones(self):
        self.assertIs(self.told(self.DEALT, self.YS, [0, 0]), True)
        self.assertIs(is_cheapest([], [], [], [], [], []), True)
        self.assertIs(is_cheapest([], [0], [4], [], [7], [0]), True)
        self.assertIs(is_cheapest([(0, [(None, 3)])], [], [4], [None], [], [0]), True)

    def test_prices_of_owners(self):
        spots = [(0, [(0, 0), (None, 5)]), (0, [(0, 0), (None, 3)])]
        self.assertIs(is_cheapest(spots, [0], [1], [0, None], [0], [3]), True)
        self.assertIs(is_cheapest(spots, [0], [1], [0, None], [0], [4]), True)
        self.assertIs(is_cheapest(spots, [0], [1], [0, None], [0], [6]), False)
        self.assertIs(is_cheapest(spots, [0], [1], [0, None], [0], [2]), False)
        self.assertIs(is_cheapest(spots, [0], [1], [None, 0], [0], [3]), False)

    def test_a_price_below_nought(self):
        spots = [(0, [(0, 5)])]
        self.assertIs(is_cheapest(spots, [1], [1], [0], [0], [0]), True)
        # Worth as much as it costs, but by prices below nought.
        self.assertEqual(worth(spots, [1], [1], [-1], [0]), 5)
        self.assertIs(is_cheapest(spots, [1], [1], [0], [-1], [0]), False)
        self.assertEqual(worth(spots, [1], [1], [0], [-1]), 5)
        self.assertIs(is_cheapest(spots, [1], [1], [0], [0], [-1]), False)
        self.assertIs(is_cheapest([], [0], [], [], [-1], []), False)
        self.assertIs(is_cheapest([], [], [0], [], [], [-1]), False)

    def test_too_few_and_too_many_prices(self):
        self.assertIs(self.told(self.DEALT, self.YS + [0], [0, 0]), False)
        self.assertIs(self.told(self.DEALT, self.YS, [0, 0, 0]), False)
        self.assertIs(self.told(self.DEALT, self.YS[:1], [0, 0]), False)
        self.assertIs(self.told(self.DEALT, self.YS, [0]), False)
        self.assertIs(self.told(self.DEALT, [], []), False)
        self.assertIs(is_cheapest([], [], [], [], [0], []), False)
        self.assertIs(is_cheapest([], [], [], [], [], [0]), False)
        self.assertIs(is_cheapest([], [0], [], [], [], []), False)
        self.assertIs(is_cheapest([], [], [0], [], [], []), False)

    def test_a_cost_one_more_than_they_are_worth(self):
        for cost, told in ((3, True), (4, False), (5, False)):
            spots = [(0, [(None, 0), (1, cost), (0, 5)])] + SPOTS[1:]
            self.assertIs(self.told(self.DEALT, self.YS, [0, 0], spots), told)
        self.assertIs(self.told(self.DEALT, [3, 2], [0, 0]), False)
        self.assertIs(self.told(self.DEALT, [3, 4], [0, 0]), False)
        self.assertIs(self.told(self.DEALT, [2, 3], [0, 0]), False)
        self.assertIs(self.told(self.DEALT, [5, 3], [0, 0]), True)
        self.assertIs(self.told(self.DEALT, [6, 3], [0, 0]), False)
        self.assertIs(self.told([1, 0, 0], self.YS, [0, 0]), False)

    def test_no_dealing(self):
        self.assertIs(self.told([None, 1, None], [0, 0], [0, 0]), False)
        self.assertEqual(cost_of(SPOTS, [None, 1, None]), worth(SPOTS, COLUMNS, CAPS, [0, 0], [0, 0]))
        for dealt in ([], [1, 0], [1, 0, None, None], [1, 0, 1], [2, 0, None], [1, None, None], [-1, 0, None]):
            self.assertIs(self.told(dealt, self.YS, [0, 0]), False)

    def test_of_small_ones(self):
        chance = random.Random(48)
        seen = [0, 0]
        for number in range(900):
            spots, columns, caps = of_chance(chance)
            ys = [chance.randrange(-1, 4) for column in columns]
            zs = [chance.randrange(-1, 3) for cap in caps]
            for dealt in itertools.product(*offered(spots)):
                told = is_cheapest(spots, columns, caps, list(dealt), ys, zs)
                right = (is_one(spots, columns, caps, dealt) and min([0] + ys + zs) == 0
                         and expected_cost(spots, dealt) == expected_worth(spots, columns, caps, ys, zs))
                self.assertIs(told, right)
                seen[told] = seen[told] + 1
        self.assertGreater(min(seen), 50)

    def test_leaves_all_as_it_was(self):
        handed = (copied(SPOTS), list(COLUMNS), list(CAPS), list(self.DEALT), list(self.YS), [0, 0])
        self.assertIs(is_cheapest(*handed), True)
        self.assertEqual(handed, (SPOTS, COLUMNS, CAPS, self.DEALT, self.YS, [0, 0]))
        handed[4][0] = 9
        self.assertIs(is_cheapest(*handed), False)


if __name__ == "__main__":
    unittest.main()
