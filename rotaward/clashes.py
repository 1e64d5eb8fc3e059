"""Clashes: rules that no table meets together, of which none can be left out, and what shows it."""

from rotaward.cuts import are_rising
from rotaward.papers import is_paper
from rotaward.seeker import seek
from rotaward.tables import is_table
from rotaward.terms import faults, meets, only


def clash(terms, most):
    found = seek(terms, most)
    if found[0] == "none":
        return lessened(terms, most, found[1])
    return found if found[0] == "rota" else ("open",)


# Each rule is left out once. Where the others clash without it, it stays out; else the table that was found shows that
# it is needed, now and when others are left out later.
def lessened(terms, most, paper):
    numbers = list(range(len(terms.rules)))
    kept = needed(numbers, paper)
    rotas = {}
    for number in numbers:
        if number in kept[0]:
            others = [other for other in kept[0] if other != number]
            found = seek(only(terms, others), most)
            if found[0] == "open":
                return ("open",)
            if found[0] == "rota":
                rotas[number] = found[1]
            else:
                kept = needed(others, found[1])
    return ("clash", kept[0], kept[1], [rotas[number] for number in kept[0]])


# Of these rules those that the paper takes lines of, and the paper as it stands over them alone.
def needed(numbers, paper):
    uses = []
    for step in paper:
        if step[0] == "sum":
            uses.extend(step[1])
    places = sorted(dict([(use[0], True) for use in uses]))
    moved = dict([(place, new) for new, place in enumerate(places)])
    return ([numbers[place] for place in places], [renumbered(step, moved) for step in paper])


def renumbered(step, moved):
    if step[0] == "part":
        return step
    return ("sum", tuple([(moved[rule], line, times) for rule, line, times in step[1]]))


def is_clash(terms, told):
    if told[0] == "rota":
        return meets(terms, told[1])
    return told[0] == "clash" and are_shown(terms, told[1], told[2], told[3])


def are_shown(terms, numbers, paper, rotas):
    if not are_rising(terms.rules, numbers) or len(rotas) != len(numbers):
        return False
    chosen = only(terms, numbers)
    if not is_paper(chosen, paper):
        return False
    return all([breaks_at_most(chosen, rota, place) for place, rota in enumerate(rotas)])


def breaks_at_most(terms, rota, place):
    return is_table(terms.ward, rota) and all([fault[0] == place for fault in faults(terms, rota)])
