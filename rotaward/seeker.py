"""The search for a table that meets the terms; where there is none, its steps are the paper that shows it.

In each case that nothing ends there is a table that keeps at least what a shortage asks: the guess. Where it keeps all
lines, it is told; else the case is parted at a cell by which one of the lines that it breaks could come to more.
"""

from rotaward.errors import NoMost
from rotaward.lines import summed
from rotaward.plain import Asked, laid, looked_at
from rotaward.tables import cells

MOST_CASES = 2000


# The lines of the terms cell by cell, each line once, however many rules have it. Tops are what a line can come to
# beyond its bound where no cell has a value; drops, how much of it is lost by a value.
class Grid:
    def __init__(self, terms):
        self.names = []
        self.tops = []
        self.spans = []
        self.marks = dict([(cell, []) for cell in cells(terms.ward)])
        able = [terms.ward.choices(hand) for hand in range(len(terms.ward.hands))]
        seen = {}
        for rule, lines in enumerate(terms.sums):
            for number, line in enumerate(lines):
                if line not in seen:
                    seen[line] = True
                    self.names.append((rule, number))
                    self.lay(line, able)

    def lay(self, line, able):
        added = summed([(line, 1)])
        top = -added[1]
        span = []
        for cell in dict([((hand, day), True) for hand, day, post in added[0]]):
            if cell in self.marks:
                numbers = [added[0].get((cell[0], cell[1], value), 0) for value in able[cell[0]]]
                top = top + max(numbers)
                if min(numbers) < max(numbers):
                    span.append((cell, drops_of(able[cell[0]], numbers)))
        for cell, drops in span:
            self.marks[cell].append((len(self.tops), drops, max(drops.values())))
        self.tops.append(top)
        self.spans.append(span)


def drops_of(values, numbers):
    drops = {None: 0}
    for value, number in zip(values, numbers):
        drops[value] = max(numbers) - number
    return drops


# Cells get values and lose them again (None); kept up with it is how far each line can still come beyond its bound, and
# which ones can't come to it any more.
class Sheet:
    def __init__(self, grid):
        self.marks = grid.marks
        self.over = list(grid.tops)
        self.pins = {}
        self.broken = dict([(line, True) for line, top in enumerate(grid.tops) if top < 0])

    def put(self, cell, value):
        before = self.pins.get(cell)
        for line, drops, greatest in self.marks[cell]:
            change = drops[before] - drops[value]
            if change != 0:
                self.over[line] = self.over[line] + change
                if self.over[line] < 0:
                    self.broken[line] = True
                elif line in self.broken:
                    self.broken.pop(line)
        if value is None:
            self.pins.pop(cell)
        else:
            self.pins[cell] = value

    # How many of these values the cell may be given without breaking a line. Most lines can bear any of them, and are
    # passed over by a glance at the greatest drop.
    def values_left(self, cell, values):
        shut = {}
        for line, drops, greatest in self.marks[cell]:
            spare = self.over[line]
            if greatest > spare:
                shut.update([(value, True) for value in values if drops[value] > spare])
        return len(values) - len(shut)


# A case that is still to be looked at is kept as how many cells are pinned ahead of it, the cell that it pins, and the
# value; the trail are the cells that are pinned now, in this order.
class Search:
    def __init__(self, terms):
        self.grid = Grid(terms)
        self.asked = Asked(terms)
        self.pinned = Sheet(self.grid)
        self.guess = Sheet(self.grid)
        self.trail = []
        self.cases = [(0, None, None)]
        self.paper = []

    def go_on(self):
        case = self.cases.pop()
        while len(self.trail) > case[0]:
            self.pinned.put(self.trail.pop(), None)
        if case[1] is not None:
            self.pinned.put(case[1], case[2])
            self.trail.append(case[1])

    # The guess of an earlier case will do wherever it agrees with this one, too.
    def has_guess(self):
        if len(self.guess.pins) < len(self.grid.marks):
            return False
        return all([self.guess.pins[cell] == value for cell, value in self.pinned.pins.items()])

    def take_guess(self, rota):
        for cell in self.grid.marks:
            value = rota[cell[0]][cell[1]]
            if self.guess.pins.get(cell) != value:
                self.guess.put(cell, value)

    def part(self, cell):
        self.paper.append(("part", cell[0], cell[1]))
        for value in reversed(self.asked.able[cell[0]]):
            self.cases.append((len(self.trail), cell, value))


def seek(terms, most):
    need_most(most)
    search = Search(terms)
    while search.cases and len(search.paper) < most:
        search.go_on()
        uses = ending(search)
        if uses is not None:
            search.paper.append(("sum", uses))
        elif search.guess.broken:
            search.part(chosen(search))
        else:
            return ("rota", laid(terms.ward, search.guess.pins))
    return ("open" if search.cases else "none", search.paper)


def need_most(most):
    if most < 1 or most > MOST_CASES:
        raise NoMost("a search looks at 1 to 2000 cases")


# Uses that end the case; or None, and then the guess agrees with it.
def ending(search):
    if search.pinned.broken:
        name = search.grid.names[min(search.pinned.broken)]
        return ((name[0], name[1], 1),)
    if search.has_guess():
        return None
    found = looked_at(search.asked, search.pinned.pins)
    if found[0] is None:
        search.take_guess(found[1])
    return found[0]


# A cell with few values left is soon done with; and the more broken lines speak of it, the more can come of it.
def chosen(search):
    pinned = search.pinned
    often = {}
    for line in search.guess.broken:
        for cell, drops in search.grid.spans[line]:
            if cell not in pinned.pins and drops[search.guess.pins[cell]] > 0:
                often[cell] = often.get(cell, 0) + 1
    ranked = []
    for cell, many in often.items():
        values = pinned.values_left(cell, search.asked.able[cell[0]])
        ranked.append((values, -many, cell[1], cell[0]))
    first = min(ranked)
    return (first[3], first[2])
