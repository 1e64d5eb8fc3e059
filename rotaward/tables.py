"""Tables of a ward: for each hand a list with, for each day, 0 or a post."""

from rotaward.bits import members
from rotaward.errors import NoTable


def cells(ward):
    told = []
    for day in range(ward.days):
        for hand in range(len(ward.hands)):
            told.append((hand, day))
    return told


def blank(ward):
    return [[0] * ward.days for hand in ward.hands]


def is_table(ward, rota):
    if len(rota) != len(ward.hands):
        return False
    return all([is_row(ward, hand, row) for hand, row in enumerate(rota)])


def is_row(ward, hand, row):
    if len(row) != ward.days:
        return False
    choices = ward.choices(hand)
    return all([value in choices for value in row])


def need_table(ward, rota):
    if not is_table(ward, rota):
        raise NoTable("no table of this ward")
    return copied(rota)


def copied(rota):
    return [list(row) for row in rota]


def at_post(rota, day, post):
    return [hand for hand, row in enumerate(rota) if row[day] == post]


def hours_of(ward, rota, hand):
    return sum([ward.hours(post) for post in rota[hand]])


def changed(rota, other):
    told = []
    for hand, row in enumerate(rota):
        for day, value in enumerate(row):
            if value != other[hand][day]:
                told.append((hand, day))
    return sorted(told, key=day_first)


def day_first(cell):
    return (cell[1], cell[0])


def exchanged(rota, hand, other, days):
    mixed = copied(rota)
    for day in members(days):
        if day < len(rota[hand]):
            mixed[hand][day] = rota[other][day]
            mixed[other][day] = rota[hand][day]
    return mixed
