import unittest
from itertools import product

from helper import BARE, Case, HALF, Numbers, middles, no_books, no_rules, rules, size

from bestheads.best import thing_worths
from bestheads.errors import NoBook, NoRule, NoText
from bestheads.texts import read_book, read_rule, shown_book, shown_rule

NONE = (0, 1)
ALL = (1, 1)
THIRD = (1, 3)
FORTY = 10 ** 39
# None of these is written as a fraction.
NO_FRACTION_TEXTS = (
    "|/|1/|/2|1//2|1/2/3|-1|+1|-0|1/-2|+1/2|1/+2|-1/2|01|00|1/02|01/2|1/1|0/1|2/1|1/0|0/0|0/2|2/4|3/3|6/4"
    "|1 /2|1/ 2| 1|1 |1_0|0x1|1.0|0.5|a|one|1e1|None|True|(1, 2)|1,2|1\n|\n1|\t1|1;|~|!|1/2!|'1'|1/2 "
    "|\u00b2|\u0661|1/\u00b2"
).split("|")
# None of these is written as a rule for one to four lists.
NO_RULE_TEXTS = (
    "| |\n|1/2|sum|share 1/2|Least|LEAST| least|least |least\n|\nleast|least 1|greatest 1|product 1/2|leastleast"
    "|least greatest|least least|(least)|('least',)"
    "|shares|shares |shares  1/2|shares 1/2 |shares,1/2|shares\n1/2|shares\t1/2|shares -1"
    "|middle|middle |middle  1|middle 1 |middle 0|middle 00|middle 01|middle -1|middle +1|middle 1/1|middle 1/2"
    "|middle 1 1|middle a|middle 1.0|middle\n1|middle one|middle 5|1 middle|middle middle"
).split("|")
# No text at all.
NO_TEXTS = [None, True, False, 0, 1, (), [], ("1",), ["1"], (1, 2), [[(1, 2)]], ("least",)]


class ShownBook(Case):
    def test_written_out(self):
        self.told("1", shown_book, [[ALL]])
        self.told("0", shown_book, [[NONE]])
        self.told("1/2", shown_book, [[HALF]])
        self.told("1/2 1/3\n0 1", shown_book, [[HALF, THIRD], [NONE, ALL]])
        self.told("1\n1/2\n1/3\n0", shown_book, [[ALL], [HALF], [THIRD], [NONE]])
        self.told("999999999998/999999999999 10/11", shown_book, [[(999999999998, 999999999999), (10, 11)]])

    def test_all_sizes(self):
        for lists, things in product(range(1, 5), range(1, 13)):
            self.told("\n".join([" ".join(["1/2"] * things)] * lists), shown_book, size(lists, things))

    def test_numbers_of_more_than_forty_figures_are_shown(self):
        for figures in (40, 41, 61, 1000):
            top = 10 ** (figures - 1)
            self.told(f"{top}/{top + 1}", shown_book, [[(top, top + 1)]])

    def test_refusals(self):
        for thing in no_books():
            self.refused(NoBook, shown_book, thing)


class ReadBook(Case):
    def test_written_out(self):
        self.told([[ALL]], read_book, "1")
        self.told([[NONE]], read_book, "0")
        self.told([[HALF, THIRD], [NONE, ALL]], read_book, "1/2 1/3\n0 1")
        self.told([[(10, 11), (100, 101)]], read_book, "10/11 100/101")

    def test_what_is_shown_is_read_back(self):
        numbers = Numbers(111)
        for lists, things, figures in product(range(1, 5), range(1, 13), (1, 2, 12)):
            book = numbers.book(lists, things, figures)
            self.told(book, read_book, shown_book(book))

    def test_forty_and_forty_one_figures(self):
        self.told([[(FORTY, FORTY + 1)]], read_book, f"{FORTY}/{FORTY + 1}")
        self.told([[(1, 10 ** 40 - 1)]], read_book, "1/" + "9" * 40)
        for top, bottom in ((1, 10 ** 40), (10 ** 40, 10 ** 40 + 1), (10 ** 40 - 1, 10 ** 40), (1, 10 ** 3000)):
            self.refused(NoText, read_book, f"{top}/{bottom}")
            self.refused(NoText, read_book, f"1/2 {top}/{bottom}")

    def test_no_fractions(self):
        for text in NO_FRACTION_TEXTS:
            self.refused(NoText, read_book, text)
            for other in (f"{text} 1/2", f"1/2 {text}", f"{text}\n1/2", f"1/2\n{text}", f"1/2 1/2\n1/2 {text}"):
                self.refused(NoText, read_book, other)

    def test_blanks_and_line_ends(self):
        texts = "1/2  1/3| 1/2 1/3|1/2 1/3 |1/2 1/3\n|\n1/2 1/3|1/2 1/3\n\n1/2 1/3|| |\n|1/2 1/3 \n1/2 1/3"
        texts += "|1/2 1/3\n 1/2 1/3|1/2\t1/3|1/2,1/3|1/2;1/3|1/2 1/3\n\n"
        for text in texts.split("|"):
            self.refused(NoText, read_book, text)

    def test_what_is_then_no_book(self):
        # Worths above 1, lists of unlike lengths, a fifth list, a thirteenth thing.
        for text in ("2", "3/2", "1/2 4/3", "1/2\n10", "1000000000000/999999999999"):
            self.refused(NoText, read_book, text)
        for text in ("1/2 1/3\n1/2", "1/2\n1/2 1/3", "1\n1\n1 1"):
            self.refused(NoText, read_book, text)
        self.told(size(4, 12), read_book, shown_book(size(4, 12)))
        self.refused(NoText, read_book, "\n".join(["1/2"] * 5))
        self.refused(NoText, read_book, " ".join(["1/2"] * 13))
        self.refused(NoText, read_book, "\n".join([" ".join(["1/2"] * 13)] * 4))
        self.refused(NoText, read_book, "\n".join([" ".join(["0"] * 200)] * 10))

    def test_no_texts(self):
        for thing in NO_TEXTS:
            self.refused(NoText, read_book, thing)

    def test_each_sign_at_each_place(self):
        text = "1/2 0\n1 10/11"
        seen = []
        for at, sign in product(range(len(text) + 1), [chr(number) for number in range(32, 127)] + ["\n"]):
            for other in (text[:at] + sign + text[at:], text[:at] + sign + text[at + 1:], text[:at] + text[at + 1:]):
                try:
                    book = read_book(other)
                except NoText:
                    continue
                # What is read is just what is shown.
                self.assertEqual(other, shown_book(book))
                seen.append(other)
        self.assertGreater(len(set(seen)), 20)


class ShownRule(Case):
    def test_written_out(self):
        for many in range(1, 5):
            for rule in BARE:
                self.told(rule[0], shown_rule, rule, many)
            for place in range(1, many + 1):
                self.told(f"middle {place}", shown_rule, ("middle", place), many)
            self.told("shares" + " 1/2" * many, shown_rule, ("shares", [HALF] * many), many)
        self.told("shares 0 1 7/2 1000", shown_rule, ("shares", [NONE, ALL, (7, 2), (1000, 1)]), 4)

    def test_refusals(self):
        for many in range(1, 5):
            for thing in no_rules(many):
                self.refused(NoRule, shown_rule, thing, many)


class ReadRule(Case):
    def test_written_out(self):
        for many in range(1, 5):
            for rule in BARE:
                self.told(rule, read_rule, rule[0], many)
            for rule in middles(many):
                self.told(rule, read_rule, f"middle {rule[1]}", many)
        self.told(("shares", [NONE, ALL, (7, 2), (1000, 1)]), read_rule, "shares 0 1 7/2 1000", 4)

    def test_what_is_shown_is_read_back(self):
        numbers = Numbers(112)
        for many in range(1, 5):
            for rule in rules(many) + [numbers.rule(many, 12) for turn in range(20)]:
                self.told(rule, read_rule, shown_rule(rule, many), many)

    def test_no_rule_texts(self):
        texts = NO_RULE_TEXTS + ["middle " + "1" * figures for figures in (12, 40, 41, 1000)]
        for text in NO_FRACTION_TEXTS:
            texts += ["shares " + text, "shares 1/2 " + text, "shares " + text + " 1/2"]
        for many in range(1, 5):
            for text in texts:
                self.refused(NoText, read_rule, text, many)

    def test_no_rules_for_so_many_lists(self):
        for many, other in product(range(1, 5), range(0, 7)):
            text = "shares" + " 1/2" * other
            if many == other:
                self.told(("shares", [HALF] * many), read_rule, text, many)
            else:
                self.refused(NoText, read_rule, text, many)
            if 1 <= other <= many:
                self.told(("middle", other), read_rule, f"middle {other}", many)
            else:
                self.refused(NoText, read_rule, f"middle {other}", many)

    def test_weights_above_one_and_of_forty_figures(self):
        self.told(("shares", [(5, 2)]), read_rule, "shares 5/2", 1)
        self.told(("shares", [(FORTY, 1)]), read_rule, f"shares {FORTY}", 1)
        self.told(("shares", [(FORTY + 1, FORTY)]), read_rule, f"shares {FORTY + 1}/{FORTY}", 1)
        for text in (str(10 ** 40), f"1/{10 ** 40}", f"{10 ** 40}/{10 ** 40 + 1}", f"{10 ** 40 + 1}/{FORTY}"):
            self.refused(NoText, read_rule, "shares " + text, 1)
            self.refused(NoText, read_rule, "shares 1 " + text, 2)

    def test_no_texts(self):
        for thing in NO_TEXTS:
            for many in range(1, 5):
                self.refused(NoText, read_rule, thing, many)


class Longest(Case):
    def test_the_largest_is_told_soon(self):
        numbers = Numbers(113)
        book = numbers.book(4, 12, 40)
        self.assertEqual(book, self.soon(read_book, self.soon(shown_book, book)))
        for text in ("1 " * 2000, "\n" * 4000, "9" * 4000, "1/" * 2000, "shares " + "1 " * 1990, "1\n" * 2000):
            for deed, given in ((read_book, (text,)), (read_rule, (text, 4))):
                self.refused(NoText, deed, *given)

    def test_what_was_told_may_be_shown(self):
        numbers = Numbers(114)
        book = numbers.book(4, 12, 12)
        worths = thing_worths(book, ("product",))
        text = self.soon(shown_book, [worths])
        self.assertEqual([f"{top}/{bottom}" for top, bottom in worths], text.split(" "))


if __name__ == "__main__":
    unittest.main()
