"""Papers: steps that part cases or end them by sums of lines, until no case is left."""

from rotaward.lines import closes
from rotaward.rules import has_day, has_hand


def ends(terms, pins, uses):
    if not all([is_there(terms, rule, line) and times >= 1 for rule, line, times in uses]):
        return False
    return closes(terms.ward, pins, [(terms.sums[rule][line], times) for rule, line, times in uses])


# A number below 0 would name a rule or a line from the end, so it is looked at by itself.
def is_there(terms, rule, line):
    return 0 <= rule < len(terms.sums) and 0 <= line < len(terms.sums[rule])


def left(terms, paper):
    cases = [{}]
    for step in paper:
        if cases == [] or not is_step(terms, cases[-1], step):
            return None
        pins = cases.pop()
        if step[0] == "part":
            cases.extend(parted(terms.ward, pins, step[1], step[2]))
    return cases


def is_step(terms, pins, step):
    if step[0] == "part":
        return is_free(terms.ward, pins, step[1], step[2])
    return step[0] == "sum" and ends(terms, pins, step[1])


def is_free(ward, pins, hand, day):
    return has_hand(ward, hand) and has_day(ward, day) and (hand, day) not in pins


def parted(ward, pins, hand, day):
    cases = []
    for value in reversed(ward.choices(hand)):
        case = dict(pins)
        case[(hand, day)] = value
        cases.append(case)
    return cases


def is_paper(terms, paper):
    return left(terms, paper) == []
