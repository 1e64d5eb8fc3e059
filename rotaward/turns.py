"""Rules on a hand's turns: its nights in a row, its rest behind them, its days off."""

from rotaward.rules import Rule, all_posts, has_hand, is_many, spread, worded


class Nights(Rule):
    def __init__(self, hand, many):
        self.hand = hand
        self.many = many

    def fits(self, ward):
        return has_hand(ward, self.hand) and is_many(self.many)

    def lines(self, ward):
        nights = posts_by_night(ward)
        laid = []
        for first in range(ward.days - self.many):
            row = list(range(first, first + self.many + 1))
            laid.append((spread(self.hand, row, nights, -1), -self.many))
        return laid

    def told(self):
        return worded(["nights", self.hand, self.many])


class Rest(Rule):
    def __init__(self, hand, many):
        self.hand = hand
        self.many = many

    def fits(self, ward):
        return has_hand(ward, self.hand) and is_many(self.many)

    def lines(self, ward):
        by_night = day_by_day(ward, self.hand, posts_by_night(ward), -1)
        by_day = day_by_day(ward, self.hand, posts_by_day(ward), -1)
        laid = []
        for first in range(ward.days):
            for day in days_between(ward, first + 1, first + self.many):
                laid.append((by_night[first] + by_day[day], -1))
        return laid

    def told(self):
        return worded(["rest", self.hand, self.many])


class Off(Rule):
    def __init__(self, hand, many):
        self.hand = hand
        self.many = many

    def fits(self, ward):
        return has_hand(ward, self.hand) and is_many(self.many)

    # The parts of a day are made once and stand in many lines: of a long month these would else be very many parts.
    def lines(self, ward):
        works = day_by_day(ward, self.hand, all_posts(ward), -1)
        between = day_by_day(ward, self.hand, all_posts(ward), 1)
        laid = []
        for first in range(ward.days):
            inside = ()
            for last in days_between(ward, first + 2, first + self.many):
                inside = inside + between[last - 1]
                laid.append((works[first] + inside + works[last], -1))
        return laid

    def told(self):
        return worded(["off", self.hand, self.many])


def posts_by_night(ward):
    return [post for post in all_posts(ward) if ward.is_night(post)]


def posts_by_day(ward):
    return [post for post in all_posts(ward) if not ward.is_night(post)]


def day_by_day(ward, hand, posts, number):
    return [spread(hand, [day], posts, number) for day in range(ward.days)]


def days_between(ward, first, last):
    return list(range(first, min(last + 1, ward.days)))
