"""Rules with a price: few cells unlike an old table, little weight of wishes denied."""

from rotaward.lines import total
from rotaward.rules import Rule, all_posts, has_day, has_hand, has_post, spread

MOST_CHANGES = 999


class Near(Rule):
    def __init__(self, old, many):
        self.old = tuple([tuple(row) for row in old])
        self.many = many

    def fits(self, ward):
        return is_old(ward, self.old) and -1 <= self.many <= MOST_CHANGES

    def lines(self, ward):
        parts = []
        working = 0
        for cell, value in valued(self.old):
            if value == 0:
                parts.extend(spread(cell[0], [cell[1]], all_posts(ward), -1))
            else:
                parts.append((cell[0], cell[1], value, 1))
                working = working + 1
        return [(tuple(parts), working - self.many)]

    def price(self, ward):
        costs = {}
        for cell, value in valued(self.old):
            for other in range(len(ward.posts) + 1):
                if other != value:
                    costs[(cell[0], cell[1], other)] = 1
        return (costs, self.many)


class Denied(Rule):
    def __init__(self, wishes, most):
        self.wishes = tuple(wishes)
        self.most = most

    def fits(self, ward):
        return all([is_wish(ward, wish) for wish in self.wishes]) and -1 <= self.most <= 10 ** 12

    # To be off denies a wish with 0; so all posts together earn what being off would cost.
    def lines(self, ward):
        parts = []
        earned = 0
        for hand, day, post, weight in self.wishes:
            if post == 0:
                parts.extend(spread(hand, [day], all_posts(ward), weight))
                earned = earned + weight
            else:
                parts.append((hand, day, post, -weight))
        return [(tuple(parts), earned - self.most)]

    def price(self, ward):
        costs = {}
        for hand, day, post, weight in self.wishes:
            costs[(hand, day, post)] = costs.get((hand, day, post), 0) + weight
        return (costs, self.most)


def is_old(ward, old):
    if len(old) != len(ward.hands):
        return False
    return all([len(row) == ward.days and all([is_value(ward, value) for value in row]) for row in old])


def is_value(ward, value):
    return value == 0 or has_post(ward, value)


def is_wish(ward, wish):
    there = has_hand(ward, wish[0]) and has_day(ward, wish[1]) and is_value(ward, wish[2])
    return there and 1 <= wish[3] <= 10 ** 9


def valued(old):
    told = []
    for hand, row in enumerate(old):
        told.extend([((hand, day), value) for day, value in enumerate(row)])
    return told


# A wish is denied where the table holds what it speaks of: just as a part of a line counts.
def denied(wishes, rota):
    return total(rota, wishes)
