"""Dealings of spots to columns, what they cost, and prices that show that none costs less."""


def worth(spots, columns, caps, ys, zs):
    gained = sum([need * price for need, price in zip(columns, ys)])
    lost = sum([cap * price for cap, price in zip(caps, zs)])
    return gained - lost + sum([least_cost(spot, ys, zs) for spot in spots])


def least_cost(spot, ys, zs):
    owner = spot[0]
    return min([cost if column is None else cost - ys[column] + zs[owner] for column, cost in spot[1]])


def cost_of(spots, dealt):
    return sum([cost_at(spot, column) for spot, column in zip(spots, dealt)])


def cost_at(spot, column):
    return sum([cost for offered, cost in spot[1] if offered == column])


def is_dealing(spots, columns, caps, dealt):
    return are_offered(spots, dealt) and is_enough(columns, dealt) and is_borne(spots, caps, dealt)


def are_offered(spots, dealt):
    if len(dealt) != len(spots):
        return False
    return all([column in [offer[0] for offer in spot[1]] for spot, column in zip(spots, dealt)])


def is_enough(columns, dealt):
    return all([dealt.count(column) >= need for column, need in enumerate(columns)])


def is_borne(spots, caps, dealt):
    working = [spot[0] for spot, column in zip(spots, dealt) if column is not None]
    return all([working.count(owner) <= cap for owner, cap in enumerate(caps)])


def is_cheapest(spots, columns, caps, dealt, ys, zs):
    if not is_dealing(spots, columns, caps, dealt) or not are_prices(columns, caps, ys, zs):
        return False
    return cost_of(spots, dealt) == worth(spots, columns, caps, ys, zs)


def are_prices(columns, caps, ys, zs):
    if len(ys) != len(columns) or len(zs) != len(caps):
        return False
    return all([price >= 0 for price in ys]) and all([price >= 0 for price in zs])
