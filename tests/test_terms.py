"""Terms, what refuses them, terms made of others, and the faults of a table (points 2, 31 and 32)."""

import itertools
import unittest

from rotaward.errors import NoRule, NoTable, WardError
from rotaward.pairs import Apart, Beside
from rotaward.rules import Away, Hours, Least, Most, Rule, Want
from rotaward.terms import Terms, faults, meets, more, only
from rotaward.turns import Nights, Off, Rest
from rotaward.wards import Ward

# The first hand can hold both posts, the second the first alone.
WARD = Ward(3, [0b11, 0b01], [(0b01, 8, 0), (0b10, 12, 1)])
NO_HANDS = Ward(3, [], [(0, 8, 0)])
RULES = [Want(0, 1, 1), Away(0, 0b101), Hours(1, 8, 16), Nights(0, 1), Rule(), Apart(0, 1), Most(1, 7, 2)]
NO_FIT = Want(3, 1, 1)


def tables(ward):
    rows = [itertools.product(ward.choices(hand), repeat=ward.days) for hand in range(len(ward.hands))]
    return [[list(row) for row in rota] for rota in itertools.product(*rows)]


def came_to(rota, parts):
    return sum(number for hand, day, post, number in parts if rota[hand][day] == post)


def short_of(rota, line):
    return line[1] - came_to(rota, line[0])


def expected_faults(ward, rules, rota):
    told = []
    for number, rule in enumerate(rules):
        for place, line in enumerate(rule.lines(ward)):
            if short_of(rota, line) > 0:
                told.append((number, place, short_of(rota, line)))
    return told


class Refusals(unittest.TestCase):
    def refused(self, number, make, *things):
        with self.assertRaises(WardError) as taken:
            make(*things)
        self.assertIs(type(taken.exception), NoRule)
        self.assertEqual(taken.exception.number, number)
        self.assertIs(type(taken.exception.number), int)

    def test_the_first_rule_that_does_not_fit(self):
        self.refused(0, Terms, WARD, [NO_FIT])
        self.refused(0, Terms, WARD, [NO_FIT] + RULES)
        self.refused(7, Terms, WARD, RULES + [NO_FIT])
        self.refused(2, Terms, WARD, RULES[:2] + [Apart(0, 0), RULES[2], NO_FIT])
        self.refused(1, Terms, NO_HANDS, [Want(0, 1, 1), Away(0, 0), Want(0, 1, 100)])

    def test_each_class_is_looked_at(self):
        for rule in (
            Want(0, 0, 1), Most(2, 7, 1), Least(0, 2 ** 31, 1), Hours(0, -1, 9), Away(-1, 0), Nights(0, 100),
            Rest(2, 1), Off(0, -1), Apart(1, 1), Beside(0, 2),
        ):
            self.refused(1, Terms, WARD, [Rule(), rule])

    def test_a_hundred_and_twenty_rules(self):
        rules = [Want(number % 3, 1, number % 100) for number in range(120)]
        terms = Terms(WARD, rules)
        self.assertEqual(terms.rules, tuple(rules))
        self.assertEqual([lines[0][1] for lines in terms.sums], [number % 100 for number in range(120)])

    def test_and_one_more(self):
        rules = [Rule()] * 120
        self.refused(120, Terms, WARD, rules + [Rule()])
        self.refused(120, Terms, WARD, rules + [NO_FIT])
        self.refused(120, Terms, WARD, rules + [Rule()] * 80)
        self.refused(120, Terms, WARD, rules + [Rule(), NO_FIT])

    def test_too_many_and_one_that_does_not_fit(self):
        self.refused(119, Terms, WARD, [Rule()] * 119 + [NO_FIT])
        self.refused(119, Terms, WARD, [Rule()] * 119 + [NO_FIT] * 2)
        self.refused(5, Terms, WARD, [Rule()] * 5 + [NO_FIT] + [Rule()] * 150)

    def test_rules_that_no_table_keeps_are_not_refused(self):
        rules = [Want(0, 1, 99), Most(0, 0, -1), Hours(0, 9, 3)]
        self.assertEqual(Terms(WARD, rules).rules, tuple(rules))

    def test_more_is_refused_likewise(self):
        terms = Terms(WARD, RULES)
        self.refused(7, more, terms, [NO_FIT])
        self.refused(9, more, terms, [Rule(), Rule(), NO_FIT, NO_FIT])
        self.refused(120, more, terms, [Rule()] * 114)
        self.refused(120, more, Terms(WARD, [Rule()] * 120), [Rule()])
        self.refused(120, more, Terms(WARD, [Rule()] * 120), [NO_FIT])
        self.assertEqual(len(more(terms, [Rule()] * 113).rules), 120)


class Fields(unittest.TestCase):
    def test_no_rules(self):
        terms = Terms(WARD, [])
        self.assertIs(terms.ward, WARD)
        self.assertEqual((terms.rules, terms.sums), ((), ()))
        self.assertEqual([type(terms.rules), type(terms.sums)], [tuple, tuple])

    def test_as_they_were_told(self):
        terms = Terms(WARD, RULES)
        self.assertIs(terms.ward, WARD)
        self.assertIs(type(terms.rules), tuple)
        self.assertEqual(len(terms.rules), len(RULES))
        for kept, rule in zip(terms.rules, RULES):
            self.assertIs(kept, rule)

    def test_sums(self):
        terms = Terms(WARD, RULES)
        self.assertIs(type(terms.sums), tuple)
        self.assertEqual({type(lines) for lines in terms.sums}, {tuple})
        self.assertEqual([len(lines) for lines in terms.sums], [1, 2, 2, 2, 0, 6, 1])
        for rota in tables(WARD):
            found = [[(came_to(rota, parts), bound) for parts, bound in lines] for lines in terms.sums]
            told = [[(came_to(rota, parts), bound) for parts, bound in rule.lines(WARD)] for rule in RULES]
            self.assertEqual(found, told)

    def test_one_rule_in_terms_of_several_wards(self):
        rule = Away(0, 0b1111)
        wards = [WARD, Ward(1, [0], [(0, 8, 0)]), Ward(9, [0], [])]
        self.assertEqual([len(Terms(ward, [rule]).sums[0]) for ward in wards], [3, 1, 4])

    def test_what_is_done_to_the_list_later_changes_no_terms(self):
        rules = list(RULES)
        terms = Terms(WARD, rules)
        self.assertEqual(rules, RULES)
        rules.pop(0)
        rules.append(NO_FIT)
        rules.reverse()
        self.assertEqual(terms.rules, tuple(RULES))
        self.assertEqual([len(lines) for lines in terms.sums], [1, 2, 2, 2, 0, 6, 1])
        self.assertEqual(faults(terms, [[0, 0, 0], [0, 0, 0]]), [(0, 0, 1), (2, 0, 8)])


class MadeOfOthers(unittest.TestCase):
    def setUp(self):
        self.terms = Terms(WARD, RULES)

    def has_just(self, terms, rules):
        self.assertIs(type(terms), Terms)
        self.assertIs(terms.ward, WARD)
        self.assertEqual(terms.rules, tuple(rules))
        self.assertEqual([len(lines) for lines in terms.sums], [len(rule.lines(WARD)) for rule in rules])
        for rota in tables(WARD)[::7]:
            self.assertEqual(faults(terms, rota), expected_faults(WARD, rules, rota))

    def test_only_some(self):
        self.has_just(only(self.terms, [0, 2, 5]), [RULES[0], RULES[2], RULES[5]])
        self.has_just(only(self.terms, [6]), [RULES[6]])

    def test_in_the_order_in_which_they_are_told(self):
        self.has_just(only(self.terms, [5, 0, 2]), [RULES[5], RULES[0], RULES[2]])
        self.has_just(only(self.terms, [6, 5, 4, 3, 2, 1, 0]), list(reversed(RULES)))

    def test_none_and_all(self):
        self.has_just(only(self.terms, []), [])
        self.has_just(only(self.terms, list(range(7))), RULES)
        self.has_just(only(Terms(WARD, []), []), [])

    def test_more_are_laid_behind(self):
        laid = [Off(0, 2), Beside(1, 0)]
        self.has_just(more(self.terms, laid), RULES + laid)
        self.has_just(more(Terms(WARD, []), laid), laid)
        self.has_just(more(self.terms, RULES), RULES + RULES)

    def test_no_more(self):
        self.has_just(more(self.terms, []), RULES)

    def test_the_first_terms_stay_as_they_were(self):
        only(self.terms, [3, 1])
        more(self.terms, [Off(0, 2)])
        self.has_just(self.terms, RULES)

    def test_what_is_handed_in_stays_and_may_be_changed_later(self):
        numbers = [5, 0]
        laid = [Off(0, 2)]
        some = only(self.terms, numbers)
        longer = more(self.terms, laid)
        self.assertEqual(numbers, [5, 0])
        self.assertEqual(len(laid), 1)
        numbers.append(1)
        laid.clear()
        self.has_just(some, [RULES[5], RULES[0]])
        self.assertEqual(len(longer.rules), 8)


class Faults(unittest.TestCase):
    def setUp(self):
        self.terms = Terms(WARD, RULES)

    def test_of_a_table_that_keeps_all(self):
        rota = [[0, 2, 0], [1, 1, 0]]
        self.assertEqual(faults(self.terms, rota), [])
        self.assertIs(meets(self.terms, rota), True)

    def test_of_one_that_breaks_several_lines(self):
        rota = [[2, 2, 1], [0, 0, 1]]
        self.assertEqual(
            faults(self.terms, rota), [(0, 0, 1), (1, 0, 1), (1, 1, 1), (3, 0, 1), (5, 4, 1)]
        )
        self.assertIs(meets(self.terms, rota), False)

    def test_by_how_much_it_is_short(self):
        terms = Terms(WARD, [Hours(0, 30, 5), Want(1, 1, 99), Most(0, 7, -1), Least(0, 7, 3)])
        self.assertEqual(
            faults(terms, [[1, 0, 2], [0, 1, 1]]), [(0, 0, 10), (0, 1, 15), (1, 0, 98), (2, 0, 3), (3, 0, 1)]
        )

    def test_one_short_is_a_fault_and_none_short_is_not(self):
        self.assertEqual(faults(Terms(WARD, [Want(0, 1, 2)]), [[1, 0, 0], [1, 0, 0]]), [])
        self.assertEqual(faults(Terms(WARD, [Want(0, 1, 2)]), [[1, 0, 0], [0, 0, 0]]), [(0, 0, 1)])

    def test_the_same_rule_twice(self):
        terms = Terms(WARD, [Want(0, 2, 1), Rule(), Want(0, 2, 1)])
        self.assertEqual(faults(terms, [[0, 0, 0], [0, 0, 0]]), [(0, 0, 1), (2, 0, 1)])

    def test_no_rules(self):
        for rota in tables(WARD):
            self.assertEqual(faults(Terms(WARD, []), rota), [])
            self.assertIs(meets(Terms(WARD, []), rota), True)

    def test_no_hands(self):
        terms = Terms(NO_HANDS, [Want(0, 1, 0), Want(2, 1, 3)])
        self.assertEqual(faults(terms, []), [(1, 0, 3)])
        self.assertIs(meets(terms, []), False)
        self.assertIs(meets(only(terms, [0]), []), True)

    def test_of_all_tables(self):
        rules = RULES + [Least(0, 6, 1), Rest(0, 2), Off(1, 2), Beside(0, 1)]
        terms = Terms(WARD, rules)
        for rota in tables(WARD):
            told = expected_faults(WARD, rules, rota)
            self.assertEqual(faults(terms, rota), told)
            self.assertIs(meets(terms, rota), told == [])

    def test_their_kinds(self):
        given = faults(self.terms, [[2, 2, 1], [0, 0, 1]])
        self.assertIs(type(given), list)
        self.assertEqual({type(fault) for fault in given}, {tuple})
        self.assertEqual({type(thing) for fault in given for thing in fault}, {int})

    def test_are_the_askers_own(self):
        rota = [[2, 2, 1], [0, 0, 1]]
        given = faults(self.terms, rota)
        given.clear()
        self.assertEqual(len(faults(self.terms, rota)), 5)
        meets(self.terms, rota)
        self.assertEqual(rota, [[2, 2, 1], [0, 0, 1]])
        rota[0] = [0, 2, 0]
        rota[1] = [1, 1, 0]
        self.assertEqual(faults(self.terms, rota), [])
        self.assertIs(meets(self.terms, rota), True)


class NoTables(unittest.TestCase):
    NONE = [
        [],
        [[0, 2, 0]],
        [[0, 2, 0], [1, 1, 0], [0, 0, 0]],
        [[0, 2, 0], [1, 1]],
        [[0, 2, 0], [1, 1, 0, 0]],
        [[0, 2, 0], [1, 2, 0]],
        [[0, 2, 0], [1, -1, 0]],
        [[0, 3, 0], [1, 1, 0]],
        [[0, 10 ** 60, 0], [1, 1, 0]],
    ]

    def test_are_refused_and_do_not_meet_the_terms(self):
        for rules in ([], [Rule()], RULES):
            terms = Terms(WARD, rules)
            for rota in self.NONE:
                handed = [list(row) for row in rota]
                with self.assertRaises(WardError) as taken:
                    faults(terms, handed)
                self.assertIs(type(taken.exception), NoTable)
                self.assertIs(meets(terms, handed), False)
                self.assertEqual(handed, rota)

    def test_with_no_hands(self):
        terms = Terms(NO_HANDS, [])
        self.assertRaises(NoTable, faults, terms, [[]])
        self.assertIs(meets(terms, [[]]), False)
        self.assertIs(meets(terms, []), True)


if __name__ == "__main__":
    unittest.main()
