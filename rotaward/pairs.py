"""Rules on two hands: never at one post together, or one only beside the other."""

from rotaward.rules import Rule, all_posts, has_hand, worded


class Apart(Rule):
    def __init__(self, hand, other):
        self.hand = hand
        self.other = other

    def fits(self, ward):
        return are_two_hands(ward, self.hand, self.other)

    def lines(self, ward):
        return [(two_parts(self.hand, self.other, place, -1), -1) for place in places(ward)]

    def told(self):
        return worded(["apart", self.hand, self.other])


class Beside(Rule):
    def __init__(self, hand, other):
        self.hand = hand
        self.other = other

    def fits(self, ward):
        return are_two_hands(ward, self.hand, self.other)

    def lines(self, ward):
        return [(two_parts(self.hand, self.other, place, 1), 0) for place in places(ward)]

    def told(self):
        return worded(["beside", self.hand, self.other])


def are_two_hands(ward, hand, other):
    return has_hand(ward, hand) and has_hand(ward, other) and hand != other


def places(ward):
    told = []
    for day in range(ward.days):
        told.extend([(day, post) for post in all_posts(ward)])
    return told


def two_parts(hand, other, place, number):
    return ((hand, place[0], place[1], -1), (other, place[0], place[1], number))
