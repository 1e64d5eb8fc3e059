"""Sets of days and of skills, written as whole numbers by their bits."""


def members(number):
    return [place for place in range(number.bit_length()) if covers(number, 1 << place)]


def number_of(places):
    number = 0
    for place in places:
        number = number | (1 << place)
    return number


def covers(have, need):
    return (have & need) == need


def first_days(many):
    return (1 << many) - 1


def shown(number):
    if number == 0:
        return "-"
    return ",".join([str(place) for place in members(number)])
