"""Lines, each a tuple (parts, bound): what they come to over a table, and added up over a case."""


def total(rota, parts):
    return sum([number for hand, day, post, number in parts if holds(rota, hand, day, post)])


# A number below 0 would read a row of the table from its end, so a hand or day that is not there holds nothing.
def holds(rota, hand, day, post):
    return 0 <= hand < len(rota) and 0 <= day < len(rota[hand]) and rota[hand][day] == post


def kept(rota, line):
    return total(rota, line[0]) >= line[1]


def summed(pairs):
    numbers = {}
    bound = 0
    for line, times in pairs:
        bound = bound + line[1] * times
        for hand, day, post, number in line[0]:
            numbers[(hand, day, post)] = numbers.get((hand, day, post), 0) + number * times
    return (numbers, bound)


# Only the cells that the numbers speak of are walked: a paper asks this very often, mostly of few cells.
def best(ward, pins, numbers):
    choices = [ward.choices(hand) for hand in range(len(ward.hands))]
    reached = 0
    for hand, day in dict([((hand, day), True) for hand, day, post in numbers]):
        if 0 <= hand < len(choices) and 0 <= day < ward.days:
            values = [pins[(hand, day)]] if (hand, day) in pins else choices[hand]
            reached = reached + max([numbers.get((hand, day, value), 0) for value in values])
    return reached


def closes(ward, pins, pairs):
    added = summed(pairs)
    return best(ward, pins, added[0]) < added[1]
