"""The cheapest dealing, with prices that show it (points 2, 45, 46 and 47)."""

import itertools
import random
import unittest

from rotaward.cheapest import cheapest
from rotaward.prices import is_cheapest

GREAT = 10 ** 12


def is_one(spots, columns, caps, dealt):
    """Whether dealt is a dealing: by the words of the document alone."""
    gets = [0] * len(columns)
    works = [0] * len(caps)
    for (owner, offers), column in zip(spots, dealt, strict=True):
        if column not in dict(offers):
            return False
        if column is not None:
            gets[column] = gets[column] + 1
            works[owner] = works[owner] + 1
    return all(many >= need for many, need in zip(gets, columns)) and all(many <= cap for many, cap in zip(works, caps))


def cost(spots, dealt):
    return sum(dict(offers)[column] for (owner, offers), column in zip(spots, dealt))


def worth(spots, columns, caps, ys, zs):
    told = sum(need * price for need, price in zip(columns, ys)) - sum(cap * price for cap, price in zip(caps, zs))
    for owner, offers in spots:
        told = told + min(price if column is None else price - ys[column] + zs[owner] for column, price in offers)
    return told


def least(spots, columns, caps):
    """What the cheapest of all dealings costs, or None."""
    dealings = itertools.product(*[[column for column, price in offers] for owner, offers in spots])
    return min((cost(spots, dealt) for dealt in dealings if is_one(spots, columns, caps, dealt)), default=None)


def of_chance(chance, most_spots, most_columns, tops=(0, 1, 3, 9, GREAT)):
    many = chance.randrange(most_columns + 1)
    owners = chance.randrange(1, 4)
    top = chance.choice(tops)
    spots = []
    for spot in range(chance.randrange(most_spots + 1)):
        columns = chance.sample(list(range(many)) + [None], chance.randrange(1, many + 2))
        spots.append((chance.randrange(owners), [(column, chance.randrange(top + 1)) for column in columns]))
    columns = [chance.choice((0, 0, 1, 1, 2)) for column in range(many)]
    return spots, columns, [chance.choice((0, 1, 2, 3, 10 ** 9)) for owner in range(owners)]


class Cheapest(unittest.TestCase):
    def ask(self, spots, columns, caps):
        """Asks, sees that what is told shows itself, and tells what it costs, or None."""
        handed = ([(owner, list(offers)) for owner, offers in spots], list(columns), list(caps))
        told = cheapest(*handed)
        self.assertEqual(handed, (spots, columns, caps))
        if told is None:
            return None
        dealt, ys, zs = told
        self.assertEqual((type(told), type(dealt), type(ys), type(zs)), (tuple, list, list, list))
        self.assertEqual({type(column) for column in dealt} - {int, type(None)}, set())
        self.assertEqual({type(price) for price in ys + zs} - {int}, set())
        self.assertTrue(is_one(spots, columns, caps, dealt))
        self.assertEqual((len(ys), len(zs)), (len(columns), len(caps)))
        self.assertTrue(all(0 <= price <= 10 ** 20 for price in ys + zs))
        self.assertEqual(cost(spots, dealt), worth(spots, columns, caps, ys, zs))
        self.assertIs(is_cheapest(spots, columns, caps, dealt, ys, zs), True)
        return cost(spots, dealt)

    def test_nothing(self):
        self.assertEqual(cheapest([], [], []), ([], [], []))
        self.assertEqual(self.ask([], [0, 0], [0, 5]), 0)
        self.assertIsNone(self.ask([], [1], []))
        self.assertIsNone(self.ask([], [0, 1, 0], [7]))

    def test_no_columns(self):
        spots = [(0, [(None, 4)]), (1, [(None, 0)])]
        self.assertEqual(self.ask(spots, [], [0, 0]), 4)
        self.assertEqual(cheapest(spots, [], [0, 9])[0], [None, None])

    def test_without_needs_each_is_dealt_to_its_cheapest(self):
        spots = [(0, [(0, 5), (None, 3), (1, 4)]), (0, [(1, 2), (None, 3)])]
        self.assertEqual(cheapest(spots, [0, 0], [2])[0], [None, 1])

    def test_a_need(self):
        spots = [(0, [(0, 5), (None, 0)]), (0, [(0, 4), (None, 0)]), (0, [(0, 6), (None, 0)])]
        for need, told in ((0, 0), (1, 4), (2, 9), (3, 15), (4, None), (10 ** 9, None)):
            self.assertEqual(self.ask(spots, [need], [3]), told)
        self.assertEqual(cheapest(spots, [1], [3])[0], [None, 0, None])

    def test_a_cap(self):
        spots = [(0, [(0, 0), (None, 5)]), (0, [(0, 0), (None, 4)]), (0, [(0, 0), (None, 6)])]
        for cap, told in ((0, 15), (1, 9), (2, 4), (3, 0), (10 ** 9, 0)):
            self.assertEqual(self.ask(spots, [0], [cap]), told)
        self.assertEqual(cheapest(spots, [0], [2])[0], [0, None, 0])

    def test_a_need_and_a_cap_that_clash(self):
        spots = [(0, [(0, 1), (None, 0)])] * 3 + [(1, [(0, 9), (None, 0)])]
        for cap, told in ((3, 2), (2, 2), (1, 10), (0, None)):
            self.assertEqual(self.ask(spots, [2], [cap, 1]), told)
        self.assertIsNone(self.ask(spots, [2], [1, 0]))

    def test_none_may_be_idle(self):
        spots = [(0, [(0, 3), (1, 5)])] * 2
        self.assertEqual(self.ask(spots, [0, 0], [2]), 6)
        self.assertEqual(self.ask(spots, [0, 1], [2]), 8)
        self.assertIsNone(self.ask(spots, [0, 0], [1]))
        self.assertIsNone(self.ask(spots, [0, 0], [0]))

    def test_all_must_be_idle(self):
        spots = [(0, [(None, 3)])] * 2
        self.assertEqual(self.ask(spots, [0], [0]), 6)
        self.assertIsNone(self.ask(spots, [1], [2]))

    def test_spots_that_move_on_over_others(self):
        # The first column can be had from the first spot alone, which leaves the second lacking, and so on.
        many = 12
        spots = [(0, [(column, 1), (column + 1, 0)]) for column in range(many)] + [(0, [(many, 100), (None, 0)])]
        self.assertEqual(self.ask(spots, [1] * (many + 1), [many + 1]), many + 100)
        self.assertEqual(self.ask(spots, [0] + [1] * many, [many + 1]), 0)
        self.assertIsNone(self.ask(spots, [1] * (many + 1), [many]))

    def test_owners_change_places(self):
        # What the first owner may not do at its cap, the second does at a higher cost.
        spots = [(0, [(0, 1), (None, 0)]), (0, [(1, 1), (None, 0)]), (1, [(0, 7), (None, 0)]), (1, [(1, 9), (None, 0)])]
        self.assertEqual(self.ask(spots, [1, 1], [2, 0]), 2)
        self.assertEqual(self.ask(spots, [1, 1], [1, 1]), 8)
        self.assertEqual(self.ask(spots, [1, 1], [0, 2]), 16)
        self.assertIsNone(self.ask(spots, [1, 1], [0, 1]))
        self.assertIsNone(self.ask(spots, [1, 1], [1, 0]))

    def test_columns_without_a_need_may_get_more(self):
        self.assertEqual(self.ask([(0, [(0, 1), (None, 2)])] * 5, [0], [3]), 3 + 4)

    def test_costs_of_nought_and_very_great_ones(self):
        self.assertEqual(self.ask([(0, [(0, 0), (None, 0)])] * 4, [3], [3]), 0)
        self.assertEqual(self.ask([(0, [(0, GREAT), (None, 0)])] * 4, [3], [3]), 3 * GREAT)
        self.assertEqual(self.ask([(0, [(0, 0), (None, GREAT)])] * 4, [0], [1]), 3 * GREAT)
        self.assertEqual(self.ask([(0, [(0, GREAT), (1, GREAT), (None, GREAT)])] * 4, [1, 2], [3]), 4 * GREAT)

    def test_prices_stay_below_their_bound(self):
        # Prices pile up along the row of columns, by a very great cost each.
        many = 199
        spots = [(0, [(column, GREAT), (column + 1, 0)]) for column in range(many)] + [(0, [(many, GREAT), (None, 0)])]
        self.assertEqual(self.ask(spots, [1] * (many + 1), [many + 1]), (many + 1) * GREAT)
        self.assertEqual(max(cheapest(spots, [1] * (many + 1), [many + 1])[1]), (many + 1) * GREAT)

    def test_against_all_dealings(self):
        chance = random.Random(49)
        seen = []
        for number in range(1500):
            spots, columns, caps = of_chance(chance, 5, 3)
            seen.append(least(spots, columns, caps))
            self.assertEqual(self.ask(spots, columns, caps), seen[-1], (spots, columns, caps))
        self.assertGreater(seen.count(None), 300)
        self.assertGreater(len(seen) - seen.count(None), 300)

    def test_against_all_dealings_of_more_spots(self):
        chance = random.Random(50)
        for number in range(25):
            spots, columns, caps = of_chance(chance, 8, 3, (5, 50))
            self.assertEqual(self.ask(spots, columns, caps), least(spots, columns, caps), (spots, columns, caps))

    def test_a_ward(self):
        # Each spot is a hand's day, each column a day's post.
        chance = random.Random(51)
        for top in (1, 10 ** 9):
            spots = []
            for day in range(31):
                for hand in range(8):
                    offers = [(day * 6 + post, chance.randrange(top + 1)) for post in range(6)]
                    spots.append((hand, offers + [(None, chance.randrange(top + 1))]))
            self.assertIsNotNone(self.ask(spots, [1] * 186, [24] * 8))
            self.assertIsNone(self.ask(spots, [1] * 186, [23] * 7 + [24]))

    def test_large_ones(self):
        chance = random.Random(52)
        for width in (8, 20, 200):
            for top in (1, GREAT):
                spots = []
                for spot in range(300):
                    offers = [(column, chance.randrange(top + 1)) for column in chance.sample(range(200), width)]
                    spots.append((spot % 40, offers + [(None, chance.randrange(top + 1))]))
                needs = [chance.choice((0, 0, 1)) for column in range(200)]
                self.assertIsNotNone(self.ask(spots, needs, [6] * 40))
                self.assertIsNone(self.ask(spots, [2] * 200, [6] * 40))

    def test_large_ones_whose_costs_are_steep(self):
        spots = [(spot % 40, [(column, (spot + 1) * (column + 1)) for column in range(200)] + [(None, 0)])
                 for spot in range(300)]
        # The first two hundred spots are taken, the first one for the last column.
        self.assertEqual(self.ask(spots, [1] * 200, [8] * 40), sum((200 - place) * (place + 1) for place in range(200)))

    def test_is_the_askers_own(self):
        spots = [(0, [(0, 5), (None, 0)]), (0, [(0, 4), (None, 0)])]
        columns = [1]
        first = cheapest(spots, columns, [2])
        kept = ([None, 0], list(first[1]), list(first[2]))
        self.assertEqual(first, kept)
        for given in first:
            given.append(99)
        first[0][0] = 0
        self.assertEqual(columns, [1])
        second = cheapest(spots, columns, [2])
        self.assertEqual(second, kept)
        spots[1][1].clear()
        columns[0] = 2
        self.assertEqual(second, kept)


if __name__ == "__main__":
    unittest.main()
