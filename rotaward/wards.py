"""A ward: the days of its month, its hands with their skills, its posts."""

from rotaward.bits import covers
from rotaward.errors import NoHand, NoMonth, NoPost

MOST_DAYS = 31
MOST_HANDS = 8
MOST_POSTS = 6


class Ward:
    def __init__(self, days, hands, posts):
        need_month(days)
        need_hands(hands)
        need_posts(posts)
        self.days = days
        self.hands = tuple(hands)
        self.posts = tuple(posts)

    def choices(self, hand):
        skills = self.hands[hand]
        return [0] + [number for number, post in enumerate(self.posts, start=1) if covers(skills, post[0])]

    def hours(self, post):
        if post == 0:
            return 0
        return self.posts[post - 1][1]

    def is_night(self, post):
        return post != 0 and self.posts[post - 1][2] == 1

    def tables(self):
        number = 1
        for hand in range(len(self.hands)):
            many = len(self.choices(hand))
            for day in range(self.days):
                number = number * many
        return number


def need_month(days):
    if days < 1 or days > MOST_DAYS:
        raise NoMonth("a month has from 1 to 31 days")


def need_hands(hands):
    for number, skills in enumerate(hands):
        if number >= MOST_HANDS or not is_skills(skills):
            raise NoHand(number)


def need_posts(posts):
    for number, post in enumerate(posts, start=1):
        if number > MOST_POSTS or not is_post(post):
            raise NoPost(number)


def is_skills(number):
    return 0 <= number < 2 ** 30


def is_post(post):
    return is_skills(post[0]) and 0 <= post[1] <= 10 ** 9 and 0 <= post[2] <= 1
