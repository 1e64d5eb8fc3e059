"""The cheapest dealing of spots to columns, with prices that show it.

To be idle is taken for one more column of each owner, which needs all of the owner's spots beyond its cap. So there
is but one sort of bound: what a column needs. Each spot is dealt to where its cost less the price is least, at first
with no price at all. Then spots are moved from columns with more than they need to those that lack some, by the least
cost; prices rise just as far as that takes, and so never where a column has more than it needs.
"""


class Market:
    def __init__(self, spots, columns, caps):
        self.needs = list(columns) + beyond_caps(spots, caps)
        self.prices = [0] * len(self.needs)
        self.counts = [0] * len(self.needs)
        self.bids = [[] for need in self.needs]
        self.costs = [dict(offers_of(spot, columns)) for spot in spots]
        self.dealt = []
        self.paid = []
        for spot, costs in enumerate(self.costs):
            for column, cost in costs.items():
                self.bids[column].append((spot, cost))
            first = min([(cost, column) for column, cost in costs.items()])
            self.dealt.append(first[1])
            self.paid.append(first[0])
            self.counts[first[1]] = self.counts[first[1]] + 1

    def lacks(self, column):
        return self.counts[column] < self.needs[column]

    def can_spare(self, column):
        return self.counts[column] > self.needs[column]

    def move(self, spot, column):
        before = self.dealt[spot]
        self.counts[before] = self.counts[before] - 1
        self.counts[column] = self.counts[column] + 1
        self.dealt[spot] = column
        self.paid[spot] = self.costs[spot][column]


def beyond_caps(spots, caps):
    owners = [spot[0] for spot in spots]
    return [owners.count(owner) - cap for owner, cap in enumerate(caps)]


def offers_of(spot, columns):
    idle = len(columns) + spot[0]
    return [(idle if column is None else column, cost) for column, cost in spot[1]]


# One more spot comes to the column, over others between, from the nearest column that can spare one: so no dealing with
# as many there costs less. Near and far tell how much dearer it gets from a column on, moves how the way goes on there.
def is_supplied(market, column):
    near = {}
    far = {column: (0, True, column)}
    moves = {}
    while far:
        first = min(far.values())
        giver = first[2]
        if market.can_spare(giver):
            raise_prices(market, near, first[0])
            follow(market, moves, giver, column)
            return True
        far.pop(giver)
        near[giver] = first[0]
        look_on(market, giver, near, far, moves)
    return False


# Nearly all of the time goes into this loop, so what it reads has short names of its own.
def look_on(market, taker, near, far, moves):
    dealt = market.dealt
    paid = market.paid
    prices = market.prices
    base = near[taker] - prices[taker]
    for spot, cost in market.bids[taker]:
        giver = dealt[spot]
        if giver not in near:
            distance = base + cost - paid[spot] + prices[giver]
            if giver not in far or distance < far[giver][0]:
                # Of two that are equally near, the one that can spare a spot comes first.
                far[giver] = (distance, not market.can_spare(giver), giver)
                moves[giver] = (spot, taker)


def raise_prices(market, near, top):
    for column, distance in near.items():
        market.prices[column] = market.prices[column] + top - distance


def follow(market, moves, giver, column):
    place = giver
    while place != column:
        step = moves[place]
        market.move(step[0], step[1])
        place = step[1]


def cheapest(spots, columns, caps):
    market = Market(spots, columns, caps)
    for column in range(len(market.needs)):
        while market.lacks(column):
            if not is_supplied(market, column):
                return None
    many = len(columns)
    dealt = [column if column < many else None for column in market.dealt]
    return (dealt, market.prices[:many], market.prices[many:])
