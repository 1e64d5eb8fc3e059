"""Seats filled one by one: where no slot has room, others that are filled already change theirs."""


class Hall:
    def __init__(self, seats, slots, caps, where):
        self.seats = seats
        self.slots = slots
        self.caps = caps
        self.where = [None] * len(seats)
        self.sitting = [{} for slot in slots]
        self.borne = [0] * len(caps)
        self.owned = [[] for cap in caps]
        for number, slot in enumerate(slots):
            self.owned[slot[0]].append(number)
        for seat, slot in enumerate(where):
            if slot is not None:
                self.move(seat, slot)

    def move(self, seat, slot):
        before = self.where[seat]
        if before is not None:
            self.sitting[before].pop(seat)
            self.borne[self.slots[before][0]] = self.borne[self.slots[before][0]] - 1
        self.where[seat] = slot
        self.sitting[slot][seat] = True
        self.borne[self.slots[slot][0]] = self.borne[self.slots[slot][0]] + 1

    def is_full(self, slot):
        return len(self.sitting[slot]) >= self.slots[slot][1]

    def has_room(self, slot):
        owner = self.slots[slot][0]
        return not self.is_full(slot) and self.borne[owner] < self.caps[owner]

    # Whoever leaves a full slot makes room in it; where its owner alone is full, whoever leaves one of the owner's.
    def making_room(self, slot):
        if self.is_full(slot):
            return [slot]
        return self.owned[self.slots[slot][0]]


# A seat that takes a slot without room pushes those that could make room there; they look for other slots in turn. Told
# are all seats that were come to, each with the seat that pushes it and the slot which that one would take; and the
# last seat with a slot that has room, or None. Slots that are shut are known to lead to no room.
def pushes(hall, start, shut):
    seen = dict(shut)
    pushed = {start: None}
    row = [start]
    while row:
        seat = row.pop(0)
        for slot in hall.seats[seat]:
            if slot not in seen:
                if hall.has_room(slot):
                    return (pushed, (seat, slot))
                for other in sitting_there(hall, slot, seen):
                    pushed[other] = (seat, slot)
                    row.append(other)
    return (pushed, None)


def sitting_there(hall, slot, seen):
    found = []
    for other in hall.making_room(slot):
        if other not in seen:
            seen[other] = True
            found.extend(list(hall.sitting[other]))
    return found


def change(hall, pushed, last):
    step = last
    while step is not None:
        hall.move(step[0], step[1])
        step = pushed[step[0]]


def one_more(seats, slots, caps, where, seat):
    hall = Hall(seats, slots, caps, where)
    found = pushes(hall, seat, {})
    if found[1] is None:
        return None
    change(hall, found[0], found[1])
    return hall.where


def slots_of(seats, some):
    slots = {}
    for seat in some:
        for slot in seats[seat]:
            slots[slot] = True
    return slots


def filled(seats, slots, caps):
    hall = Hall(seats, slots, caps, [])
    shut = {}
    short = {}
    for seat in range(len(seats)):
        found = pushes(hall, seat, shut)
        if found[1] is None:
            # No later change comes to these seats and slots, as none of them leads to room.
            short.update(found[0])
            shut.update(slots_of(seats, found[0]))
        else:
            change(hall, found[0], found[1])
    return (hall.where, sorted(short))
