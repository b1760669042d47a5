import unittest
from itertools import product

from helper import BARE, Case, HALF, NO_WORTHS, Numbers, ODD_THINGS, middles, no_rules, pair, rules, wanted_worth

from bestheads.errors import NoRule, NoWorth
from bestheads.rules import is_rule, rule_worth


def no_worth_lists():
    lists = list(ODD_THINGS) + [[HALF] * 5, [HALF] * 6, (HALF,), (HALF, HALF), HALF, [[HALF]]]
    for worth in NO_WORTHS:
        lists += [[worth], [HALF, worth], [worth, HALF, HALF], [HALF, HALF, HALF, worth]]
    return lists


class IsRule(Case):
    def test_each_rule_for_one_to_four_lists(self):
        for many in range(1, 5):
            for rule in rules(many):
                self.told(True, is_rule, rule, many)

    def test_middle_by_each_place(self):
        for many in range(1, 5):
            for place in range(-2, 8):
                self.told(1 <= place <= many, is_rule, ("middle", place), many)

    def test_as_many_weights_as_lists(self):
        for many in range(1, 5):
            for length in range(0, 7):
                self.told(length == many, is_rule, ("shares", [HALF] * length), many)

    def test_weights_may_be_nought_and_above_one(self):
        self.told(True, is_rule, ("shares", [(0, 1), (7, 2)]), 2)
        self.told(True, is_rule, ("shares", [(999999999999, 1), (999999999999, 999999999998)]), 2)

    def test_weights_below_nought(self):
        self.told(False, is_rule, ("shares", [(-1, 2), (1, 2)]), 2)
        self.told(False, is_rule, ("shares", [(1, 2), (-1, 999999999999)]), 2)

    def test_anything_else(self):
        for many in range(1, 5):
            for thing in no_rules(many):
                self.told(False, is_rule, thing, many)

    def test_true_is_no_place(self):
        self.told(False, is_rule, ("middle", True), 1)
        self.told(False, is_rule, ("middle", True), 4)


class RuleWorth(Case):
    def test_written_out(self):
        worths = [(1, 3), (1, 2), (1, 4)]
        self.told((25, 12), rule_worth, ("shares", [(1, 1), (3, 1), (1, 1)]), worths)
        self.told((1, 4), rule_worth, ("least",), worths)
        self.told((1, 2), rule_worth, ("greatest",), worths)
        self.told((1, 2), rule_worth, ("middle", 1), worths)
        self.told((1, 3), rule_worth, ("middle", 2), worths)
        self.told((1, 4), rule_worth, ("middle", 3), worths)
        self.told((1, 24), rule_worth, ("product",), worths)

    def test_each_rule_for_small_worths(self):
        for many in range(1, 5):
            for worths in product(((0, 1), (1, 3), (1, 2), (1, 1)), repeat=many):
                for rule in rules(many):
                    self.told(wanted_worth(rule, worths), rule_worth, rule, list(worths))

    def test_each_rule_for_twelve_figures(self):
        numbers = Numbers(6)
        for many in range(1, 5):
            for turn in range(30):
                worths = [pair(numbers.worth(12)) for at in range(many)]
                weights = [pair(abs(numbers.fraction(12))) for at in range(many)]
                for rule in rules(many) + [("shares", weights)]:
                    self.told(wanted_worth(rule, worths), rule_worth, rule, worths)

    def test_one_list(self):
        for worth in ((0, 1), (1, 3), (1, 1)):
            for rule in BARE + middles(1) + [("shares", [(1, 1)])]:
                self.told(worth, rule_worth, rule, [worth])

    def test_middle_counts_like_worths_each(self):
        worths = [HALF, (1, 3), HALF, (1, 1)]
        for place, worth in ((1, (1, 1)), (2, HALF), (3, HALF), (4, (1, 3))):
            self.told(worth, rule_worth, ("middle", place), worths)

    def test_no_list_of_one_to_four_worths(self):
        for worths in no_worth_lists():
            for rule in BARE + [("middle", 1)]:
                self.refused(NoWorth, rule_worth, rule, worths)
        for many in (0, 5):
            self.refused(NoWorth, rule_worth, ("shares", [HALF] * many), [HALF] * many)

    def test_no_rule_for_as_many(self):
        for many in range(1, 5):
            for thing in no_rules(many):
                self.refused(NoRule, rule_worth, thing, [HALF] * many)

    def test_no_worth_is_told_ahead_of_no_rule(self):
        for worths in no_worth_lists():
            for rule in (None, (), ("least", 1), ("middle", 0), ("middle", 5), ("shares", []), ["least"], "least"):
                self.refused(NoWorth, rule_worth, rule, worths)

    def test_a_list_that_is_changed_later_changes_nothing_told(self):
        weights, worths = [(1, 2), (1, 2)], [(1, 1), (0, 1)]
        rule = ("shares", weights)
        told = self.ask(rule_worth, rule, worths)
        weights[0] = (2, 1)
        self.assertEqual((1, 2), told)
        self.told((2, 1), rule_worth, rule, worths)
        worths.append((1, 1))
        self.refused(NoRule, rule_worth, rule, worths)
        self.assertEqual((1, 2), told)


if __name__ == "__main__":
    unittest.main()
