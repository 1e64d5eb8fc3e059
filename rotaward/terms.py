"""Terms, a ward and the rules laid on it, and the faults of a table by them."""

from rotaward.errors import NoRule
from rotaward.lines import total
from rotaward.tables import is_table, need_table

MOST_RULES = 120


class Terms:
    def __init__(self, ward, rules):
        need_rules(ward, rules)
        self.ward = ward
        self.rules = tuple(rules)
        self.sums = tuple([tuple(rule.lines(ward)) for rule in rules])


def need_rules(ward, rules):
    for number, rule in enumerate(rules):
        if number >= MOST_RULES or not rule.fits(ward):
            raise NoRule(number)


def only(terms, numbers):
    return Terms(terms.ward, [terms.rules[number] for number in numbers])


def more(terms, rules):
    return Terms(terms.ward, list(terms.rules) + list(rules))


def faults(terms, rota):
    table = need_table(terms.ward, rota)
    found = []
    for rule, lines in enumerate(terms.sums):
        for number, line in enumerate(lines):
            short = line[1] - total(table, line[0])
            if short > 0:
                found.append((rule, number, short))
    return found


def meets(terms, rota):
    return is_table(terms.ward, rota) and faults(terms, rota) == []
