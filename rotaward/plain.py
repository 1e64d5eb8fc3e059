"""Terms that are plain, and cases that are ended by one line alone or by a shortage.

In a shortage too few seats can be filled, or all of them only at too high a cost. Where there is none, a table has been
found on the way, and it is told to whoever goes on with it.
"""

from rotaward.cheapest import cheapest
from rotaward.flows import filled
from rotaward.lines import closes
from rotaward.prices import cost_of
from rotaward.rules import days_of
from rotaward.tables import blank, cells


# What a shortage asks of the terms: of wants for one place the greatest, of a hand's mosts the least, each with the
# number of its rule; the line for each cell that is away; and the price, if there is just one.
class Asked:
    def __init__(self, terms):
        self.ward = terms.ward
        self.able = [terms.ward.choices(hand) for hand in range(len(terms.ward.hands))]
        self.wants = {}
        self.mosts = {}
        self.aways = {}
        self.priced = None
        for number, rule in enumerate(terms.rules):
            way = rule.plain(terms.ward)
            if way is not None:
                self.take_in(number, way)
        numbers = priced_rules(terms)
        if len(numbers) == 1:
            self.priced = (numbers[0], terms.rules[numbers[0]].price(terms.ward))

    def take_in(self, number, way):
        if way[0] == "want":
            place = (way[1], way[2])
            if place not in self.wants or way[3] > self.wants[place][0]:
                self.wants[place] = (way[3], number)
        elif way[0] == "most":
            if way[1] not in self.mosts or way[2] < self.mosts[way[1]][0]:
                self.mosts[way[1]] = (way[2], number)
        else:
            for line, day in enumerate(days_of(self.ward, way[2])):
                self.aways[(way[1], day)] = (number, line)

    def cost(self, cell, value):
        return self.priced[1][0].get((cell[0], cell[1], value), 0)

    def is_next_to(self, cell, places):
        return any([(cell[1], post) in places for post in self.able[cell[0]]])


# What is left of it in a case: how many hands each place lacks, how many more days each hand may work.
class Gaps:
    def __init__(self, asked, pins):
        holding = {}
        working = [0] * len(asked.able)
        for cell, value in pins.items():
            holding[(cell[1], value)] = holding.get((cell[1], value), 0) + 1
            if value != 0:
                working[cell[0]] = working[cell[0]] + 1
        needs = [(place, want[0] - holding.get(place, 0)) for place, want in asked.wants.items()]
        self.lacking = dict([(place, many) for place, many in needs if many > 0])
        self.rooms = []
        for hand, many in enumerate(working):
            # Without a Most a hand bears as many days as the month has: that binds nothing.
            self.rooms.append(asked.mosts[hand][0] - many if hand in asked.mosts else asked.ward.days)
        self.unpinned = [cell for cell in cells(asked.ward) if cell not in pins]


def is_plain(terms):
    others = [rule for rule in terms.rules if rule.plain(terms.ward) is None and rule.price(terms.ward) is None]
    return others == [] and len(priced_rules(terms)) <= 1


def priced_rules(terms):
    return [number for number, rule in enumerate(terms.rules) if rule.price(terms.ward) is not None]


def alone(terms, pins):
    for rule, lines in enumerate(terms.sums):
        for number, line in enumerate(lines):
            if closes(terms.ward, pins, [(line, 1)]):
                return ((rule, number, 1),)
    return None


def shortage(terms, pins):
    return looked_at(Asked(terms), pins)[0]


# Told are uses that end the case, and None; or None, and a table that agrees with the pins and keeps all that is asked.
def looked_at(asked, pins):
    gaps = Gaps(asked, pins)
    found = by_seats(asked, gaps, pins)
    if found[0] is None and asked.priced is not None:
        return by_cost(asked, gaps, pins)
    return found


def by_seats(asked, gaps, pins):
    slots = [cell for cell in gaps.unpinned if cell not in asked.aways]
    by_day = [[] for day in range(asked.ward.days)]
    for slot, cell in enumerate(slots):
        by_day[cell[1]].append(slot)
    places = []
    seats = []
    for place, many in gaps.lacking.items():
        takes = [slot for slot in by_day[place[0]] if place[1] in asked.able[slots[slot][0]]]
        places.extend([place] * many)
        seats.extend([takes] * many)
    found = filled(seats, [(cell[0], 1) for cell in slots], gaps.rooms)
    if found[1]:
        return (few_seats(asked, gaps, dict([(places[seat], True) for seat in found[1]])), None)
    rota = laid(asked.ward, pins)
    for place, slot in zip(places, found[0]):
        rota[slots[slot][0]][slots[slot][1]] = place[1]
    return (None, rota)


def laid(ward, pins):
    rota = blank(ward)
    for cell, value in pins.items():
        rota[cell[0]][cell[1]] = value
    return rota


# A hand that may work on fewer days than it has cells beside these places is held by its Most; of all others each cell
# counts, so those that are away have to be shut.
def few_seats(asked, gaps, places):
    beside = [cell for cell in gaps.unpinned if asked.is_next_to(cell, places)]
    owners = [cell[0] for cell in beside if cell not in asked.aways]
    tight = [hand for hand, room in enumerate(gaps.rooms) if owners.count(hand) > room]
    shut = [cell for cell in beside if cell in asked.aways and cell[0] not in tight]
    lines = [(asked.wants[place][1], 0) for place in places]
    lines.extend([(asked.mosts[hand][1], 0) for hand in tight])
    lines.extend([asked.aways[cell] for cell in shut])
    return told_uses([(line, 1) for line in lines])


def told_uses(pairs):
    return tuple(sorted([(line[0], line[1], times) for line, times in pairs if times > 0]))


def by_cost(asked, gaps, pins):
    columns = dict([(place, column) for column, place in enumerate(gaps.lacking)])
    choices = [offered(asked, cell, columns) for cell in gaps.unpinned]
    spots = []
    for cell, values in zip(gaps.unpinned, choices):
        spots.append((cell[0], [(column, asked.cost(cell, value)) for column, value in values.items()]))
    found = cheapest(spots, list(gaps.lacking.values()) + [0], gaps.rooms)
    paid = sum([asked.cost(cell, value) for cell, value in pins.items()])
    if paid + cost_of(spots, found[0]) > asked.priced[1][1]:
        return (too_dear(asked, gaps, found[1], found[2]), None)
    rota = laid(asked.ward, pins)
    for cell, values, column in zip(gaps.unpinned, choices, found[0]):
        rota[cell[0]][cell[1]] = values[column]
    return (None, rota)


# By columns what a cell may hold: to be idle, the places that lack hands, and in the last column the cheapest of all
# other posts, as one of them is as good as another where nothing lacks.
def offered(asked, cell, columns):
    values = {None: 0}
    if cell in asked.aways:
        return values
    others = []
    for post in asked.able[cell[0]][1:]:
        if (cell[1], post) in columns:
            values[columns[(cell[1], post)]] = post
        else:
            others.append((asked.cost(cell, post), post))
    if others:
        values[len(columns)] = min(others)[1]
    return values


def too_dear(asked, gaps, ys, zs):
    gains = dict(zip(gaps.lacking, ys))
    pairs = [((asked.priced[0], 0), 1)]
    pairs.extend([((asked.wants[place][1], 0), gain) for place, gain in gains.items()])
    pairs.extend([((most[1], 0), zs[hand]) for hand, most in asked.mosts.items()])
    for cell in gaps.unpinned:
        if cell in asked.aways:
            pairs.append((asked.aways[cell], shutting(asked, cell, gains, zs[cell[0]])))
    return told_uses(pairs)


# How often a cell that is away has to be shut, so that no post is better there than to be off.
def shutting(asked, cell, gains, toll):
    idle = asked.cost(cell, 0)
    posts = asked.able[cell[0]][1:]
    return max([0] + [idle - asked.cost(cell, post) + gains.get((cell[1], post), 0) - toll for post in posts])
