"""What owners can bear of some seats, and fillings that are shown by it to leave the fewest seats empty."""


def held(seats, slots, caps, some):
    asked = [0] * len(slots)
    for seat in some:
        for slot in seats[seat]:
            asked[slot] = asked[slot] + 1
    borne = [0] * len(caps)
    for many, slot in zip(asked, slots):
        borne[slot[0]] = borne[slot[0]] + min(many, slot[1])
    return sum([min(many, cap) for many, cap in zip(borne, caps)])


def is_filling(seats, slots, caps, where, short):
    if not may_be_taken(seats, where) or not are_within(slots, caps, where) or not are_rising(seats, short):
        return False
    empty = len([slot for slot in where if slot is None])
    return empty == len(short) - held(seats, slots, caps, short)


def may_be_taken(seats, where):
    if len(where) != len(seats):
        return False
    return all([slot is None or slot in choices for slot, choices in zip(where, seats)])


def are_within(slots, caps, where):
    taken = [0] * len(slots)
    borne = [0] * len(caps)
    for slot in where:
        if slot is not None:
            owner = slots[slot][0]
            taken[slot] = taken[slot] + 1
            borne[owner] = borne[owner] + 1
    in_slots = all([many <= slot[1] for many, slot in zip(taken, slots)])
    return in_slots and all([many <= cap for many, cap in zip(borne, caps)])


# Whether these numbers rise and each is the number of one of the things.
def are_rising(things, numbers):
    last = -1
    for number in numbers:
        if number <= last or number >= len(things):
            return False
        last = number
    return True
