"""Rules on a ward's tables, and those on posts, days and hours; each is told by its lines."""

from rotaward.bits import covers, first_days, members, shown

MOST_MANY = 99


class Rule:
    def fits(self, ward):
        return True

    def lines(self, ward):
        return []

    def plain(self, ward):
        return None

    def price(self, ward):
        return None

    def told(self):
        return ""


class Want(Rule):
    def __init__(self, day, post, many):
        self.day = day
        self.post = post
        self.many = many

    def fits(self, ward):
        return has_day(ward, self.day) and has_post(ward, self.post) and is_many(self.many)

    def lines(self, ward):
        parts = [(hand, self.day, self.post, 1) for hand in range(len(ward.hands))]
        return [(tuple(parts), self.many)]

    def plain(self, ward):
        return ("want", self.day, self.post, self.many)

    def told(self):
        return worded(["want", self.day, self.post, self.many])


class Most(Rule):
    def __init__(self, hand, days, many):
        self.hand = hand
        self.days = days
        self.many = many

    def fits(self, ward):
        # One less than none: a rule that no table keeps.
        return has_hand(ward, self.hand) and is_days(self.days) and (is_many(self.many) or self.many == -1)

    def lines(self, ward):
        return [(spread(self.hand, days_of(ward, self.days), all_posts(ward), -1), -self.many)]

    def plain(self, ward):
        if covers(self.days, first_days(ward.days)):
            return ("most", self.hand, self.many)
        return None

    def told(self):
        return worded(["most", self.hand, shown(self.days), self.many])


class Least(Rule):
    def __init__(self, hand, days, many):
        self.hand = hand
        self.days = days
        self.many = many

    def fits(self, ward):
        return has_hand(ward, self.hand) and is_days(self.days) and is_many(self.many)

    def lines(self, ward):
        return [(spread(self.hand, days_of(ward, self.days), all_posts(ward), 1), self.many)]

    def told(self):
        return worded(["least", self.hand, shown(self.days), self.many])


class Hours(Rule):
    def __init__(self, hand, least, most):
        self.hand = hand
        self.least = least
        self.most = most

    def fits(self, ward):
        return has_hand(ward, self.hand) and 0 <= self.least <= 10 ** 11 and -1 <= self.most <= 10 ** 11

    def lines(self, ward):
        return [(self.by_hours(ward, 1), self.least), (self.by_hours(ward, -1), -self.most)]

    def by_hours(self, ward, times):
        parts = ()
        for post in all_posts(ward):
            parts = parts + spread(self.hand, list(range(ward.days)), [post], ward.hours(post) * times)
        return parts

    def told(self):
        return worded(["hours", self.hand, self.least, self.most])


class Away(Rule):
    def __init__(self, hand, days):
        self.hand = hand
        self.days = days

    def fits(self, ward):
        return has_hand(ward, self.hand) and is_days(self.days)

    def lines(self, ward):
        return [(spread(self.hand, [day], all_posts(ward), -1), 0) for day in days_of(ward, self.days)]

    def plain(self, ward):
        return ("away", self.hand, self.days)

    def told(self):
        return worded(["away", self.hand, shown(self.days)])


def has_hand(ward, hand):
    return 0 <= hand < len(ward.hands)


def has_day(ward, day):
    return 0 <= day < ward.days


def has_post(ward, post):
    return 1 <= post <= len(ward.posts)


def is_many(many):
    return 0 <= many <= MOST_MANY


def is_days(days):
    return 0 <= days < 2 ** 31


def days_of(ward, days):
    return members(days & first_days(ward.days))


def all_posts(ward):
    return list(range(1, len(ward.posts) + 1))


def spread(hand, days, posts, number):
    parts = []
    for day in days:
        parts.extend([(hand, day, post, number) for post in posts])
    return tuple(parts)


def worded(words):
    return " ".join([str(word) for word in words])
