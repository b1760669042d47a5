import unittest
from fractions import Fraction
from itertools import product
from math import gcd

from helper import (
    BARE, Case, HALF, NO_WORTHS, Numbers, ODD_THINGS, agrees, all_asks, is_best_few, is_rising_list, middles, no_books,
    no_counts, no_looks, no_rules, no_thing_lists, number, pair, read_lines, rules, size, sure_lists, wanted_bounds,
    wanted_sure,
)

from bestheads.errors import NoBook, NoCount, NoLooks, NoRule, NotSure
from bestheads.judging import judge_paper, seen_paper
from bestheads.looks import sure_few
from bestheads.others import other_book
from bestheads.ways import by_asking, by_hope, by_rounds

NONE = (0, 1)
ALL = (1, 1)
THIRD = (1, 3)
LEAST = ("least",)
BOOK = [[THIRD, HALF, ALL, HALF], [HALF, (1, 4), NONE, (1, 4)]]


def is_whole(thing):
    return type(thing) is int


def is_worth(thing):
    if type(thing) is not tuple or len(thing) != 2 or not all(map(is_whole, thing)):
        return False
    return thing[1] >= 1 and gcd(*thing) == 1 and 0 <= thing[0] <= thing[1]


def has_form(paper, many):
    """Whether a paper is made of the kinds that the document says, whatever its lines tell."""
    if type(paper) is not tuple or len(paper) != 3 or any(type(part) is not list for part in paper):
        return False
    lines, asked, things = paper
    if not 1 <= len(lines) <= 4 or any(type(row) is not list for row in lines):
        return False
    for line in [line for row in lines for line in row] + asked:
        if type(line) is not tuple or not is_worth(line[-1] if line else None) or not all(map(is_whole, line[:-1])):
            return False
    if any(len(line) != 2 or not 0 <= line[0] < many for row in lines for line in row):
        return False
    if any(len(line) != 3 or not 0 <= line[0] < len(lines) or not 0 <= line[1] < many for line in asked):
        return False
    places = [line[:2] for line in asked]
    return places == sorted(set(places)) and is_rising_list(things, many)


def emptiest_book(paper, many):
    """The book of all that a paper shows, all else worth nothing, and the looks; the book agrees if any does."""
    lines, asked, things = paper
    book = [[NONE] * many for row in lines]
    for row, own in zip(book, lines):
        for thing, worth in own:
            row[thing] = worth
    for place, thing, worth in asked:
        book[place][thing] = worth
    return book, ([len(row) for row in lines], [line[:2] for line in asked])


def fits(book, paper):
    """Whether a book shows just what a paper tells."""
    lines, asked, things = paper
    if any(len(row) > len(book[0]) for row in lines):
        return False
    if read_lines(book, [len(row) for row in lines]) != lines:
        return False
    return all(book[place][thing] == worth for place, thing, worth in asked)


def is_rule_for(rule, lists):
    """Of a rule for some lists, whether it is one for so many."""
    if rule[0] == "shares":
        return len(rule[1]) == lists
    return rule[0] != "middle" or rule[1] <= lists


def wanted_judgement(many, rule, count, paper):
    """For a rule for some lists, perhaps not for as many as the paper has."""
    if not has_form(paper, many) or len(paper[2]) != count or not is_rule_for(rule, len(paper[0])):
        return False
    book, looks = emptiest_book(paper, many)
    return fits(book, paper) and paper[2] in sure_lists(wanted_bounds(book, rule, looks), count)


def parts_of(thing, path=()):
    """The ways to all parts of a thing, itself too."""
    found = [path]
    if isinstance(thing, (list, tuple)):
        for at, part in enumerate(thing):
            found += parts_of(part, path + (at,))
    return found


def part_at(thing, path):
    for at in path:
        thing = thing[at]
    return thing


def changed(thing, path, deed):
    """A copy of a thing in which one part is another one."""
    if not path:
        return deed(thing)
    parts = [changed(part, path[1:], deed) if at == path[0] else part for at, part in enumerate(thing)]
    return parts if isinstance(thing, list) else tuple(parts)


def others_for(part):
    """What may stand for a part of a paper, near to it and far from it."""
    if is_whole(part):
        return [-part, 2 * part, part // 2, part + 1, part - 1, bool(part), str(part), (part,), [part], None, 0, 1]
    if is_worth(part):
        near = Fraction(1, 10 ** 15)
        found = [number(part) + near, number(part) - near, number(part) / 2, number(part) * 2, -number(part)]
        return [pair(own) for own in found] + [NONE, ALL, HALF, list(part), part[::-1], part + part, None]
    found = [None, True, "", (), [], tuple(part), list(part), part[1:], part[:-1], part[::-1], part + part[:1]]
    return found + [part + part[-1:], part + type(part)((HALF,)), part + type(part)(([],)), [part], (part,)]


class SeenPaper(Case):
    def test_written_out(self):
        self.told(([[], []], [], []), seen_paper, BOOK, LEAST, 0, ([0, 0], []))
        self.told(([[], []], [], [0, 1, 2, 3]), seen_paper, BOOK, LEAST, 4, ([0, 0], []))
        lines = [[(2, ALL)], []]
        self.told((lines, [], [2]), seen_paper, BOOK, ("greatest",), 1, ([1, 0], []))
        lines = [[], [(0, HALF), (1, (1, 4))]]
        self.told((lines, [(0, 0, THIRD)], [0]), seen_paper, BOOK, LEAST, 1, ([0, 2], [(0, 0)]))
        lines = [[(2, ALL), (1, HALF), (3, HALF), (0, THIRD)], [(0, HALF), (1, (1, 4))]]
        self.told((lines, [], [0]), seen_paper, BOOK, LEAST, 1, ([4, 2], []))

    def test_what_is_asked_and_also_read_stands_in_both(self):
        lines = [[(2, ALL)], []]
        asked = [(0, 0, THIRD), (0, 2, ALL), (1, 2, NONE)]
        self.told((lines, asked, [2]), seen_paper, BOOK, ("greatest",), 1, ([1, 0], [(0, 0), (0, 2), (1, 2)]))

    def test_all_sizes_and_rules(self):
        numbers = Numbers(51)
        sure = 0
        for lists, things, figures in product(range(1, 5), (1, 2, 5, 12), (1, 12)):
            for turn in range(4):
                book, rule = numbers.book(lists, things, figures), numbers.rule(lists, figures)
                looks, count = numbers.looks(lists, things), numbers.below(things + 1)
                few = wanted_sure(book, rule, count, looks)
                if few is None:
                    self.refused(NotSure, seen_paper, book, rule, count, looks)
                    continue
                sure += 1
                asked = [(row, thing, book[row][thing]) for row, thing in looks[1]]
                self.told((read_lines(book, looks[0]), asked, few), seen_paper, book, rule, count, looks)
                self.told(True, judge_paper, things, rule, count, (read_lines(book, looks[0]), asked, few))
        self.assertGreater(sure, 40)

    def test_what_it_tells_is_let_by(self):
        numbers = Numbers(52)
        for turn in range(150):
            lists, things = 1 + numbers.below(4), 1 + numbers.below(12)
            parts = (1, 3, 10 ** 12 - 1)[numbers.below(3)]
            book = numbers.grid(lists, things, parts)
            rule, count = numbers.rule(lists, 1), numbers.below(things + 1)
            ways = [([things] * lists, []), ([0] * lists, all_asks(lists, things)), by_asking(book, rule, count)[1]]
            ways += [by_hope(book, rule, count)[0], ([by_rounds(book, rule, count)[0]] * lists, [])]
            for looks in ways:
                paper = self.ask(seen_paper, book, rule, count, looks)
                self.told(True, judge_paper, things, rule, count, paper)

    def test_not_sure(self):
        self.refused(NotSure, seen_paper, BOOK, LEAST, 1, ([0, 0], []))
        self.refused(NotSure, seen_paper, BOOK, LEAST, 1, ([4, 1], []))
        self.refused(NotSure, seen_paper, BOOK, LEAST, 3, ([3, 3], []))

    def test_refusals(self):
        for thing in no_books():
            self.refused(NoBook, seen_paper, thing, LEAST, 0, ([0], []))
        for lists in range(1, 5):
            for thing in no_rules(lists):
                self.refused(NoRule, seen_paper, size(lists, 2), thing, 0, ([0] * lists, []))
        for things in (1, 2, 12):
            for thing in no_counts(things):
                self.refused(NoCount, seen_paper, size(2, things), LEAST, thing, ([0, 0], []))
        for lists, things in ((1, 1), (2, 3), (4, 12)):
            for looks in no_looks(lists, things):
                for count in (0, 1, things):
                    self.refused(NoLooks, seen_paper, size(lists, things), LEAST, count, looks)

    def test_the_first_named_refusal_is_told(self):
        for looks in (([0, 0], []), None, ([0], []), ([0, True], [])):
            for count in (0, 1, True, None, -1, 3):
                for rule in (LEAST, None):
                    self.refused(NoBook, seen_paper, [[]], rule, count, looks)
                self.refused(NoRule, seen_paper, size(2, 2), ("middle", 3), count, looks)
            for count in (True, None, -1, 3):
                self.refused(NoCount, seen_paper, size(2, 2), LEAST, count, looks)
        # With a count of 1 nothing is sure by no looks.
        self.refused(NoLooks, seen_paper, size(2, 2), LEAST, 1, ([0, False], []))
        self.refused(NotSure, seen_paper, size(2, 2), LEAST, 1, ([0, 0], []))

    def test_what_is_changed_later_changes_nothing_told(self):
        book, depths, asked = [[HALF, THIRD]], [1], [(0, 1)]
        told = seen_paper(book, LEAST, 1, (depths, asked))
        book[0][0] = ALL
        depths[0] = 0
        asked.clear()
        self.assertEqual(([[(0, HALF)]], [(0, 1, THIRD)], [0]), told)


class JudgePaper(Case):
    def let(self, many, rule, count, paper):
        self.told(True, judge_paper, many, rule, count, paper)

    def sent_back(self, many, rule, count, paper):
        self.told(False, judge_paper, many, rule, count, paper)

    def test_written_out(self):
        paper = ([[], [(0, HALF), (1, (1, 4))]], [(0, 0, THIRD)], [0])
        self.let(4, LEAST, 1, paper)
        self.sent_back(4, ("greatest",), 1, paper)
        self.sent_back(4, LEAST, 2, paper)
        self.sent_back(4, LEAST, 0, paper)
        self.sent_back(1, LEAST, 1, paper)
        self.let(12, LEAST, 1, paper)
        self.let(2, LEAST, 1, paper)
        # The right thing, but no longer sure, and a thing that isn't the right one.
        self.sent_back(4, LEAST, 1, (paper[0], [], [0]))
        self.sent_back(4, LEAST, 1, (paper[0], paper[1], [1]))
        self.sent_back(4, LEAST, 1, ([[], [(0, HALF)]], paper[1], [0]))

    def test_no_line_and_nothing_asked(self):
        for lists, many in product(range(1, 5), (1, 2, 12)):
            for rule in BARE + middles(lists) + [("shares", [HALF] * lists)]:
                paper = ([[] for row in range(lists)], [])
                self.let(many, rule, 0, paper + ([],))
                self.let(many, rule, many, paper + (list(range(many)),))
                for count in range(1, many):
                    self.sent_back(many, rule, count, paper + (list(range(count)),))
            self.let(many, ("shares", [NONE] * lists), 1, ([[] for row in range(lists)], [], [many - 1]))

    def test_all_lines(self):
        paper = (read_lines(BOOK, [4, 4]), [])
        for rule in rules(2):
            for things in ([], [0], [1], [2], [3], [0, 2], [1, 2], [2, 3], [0, 1, 2], [0, 2, 3], [0, 1, 2, 3]):
                wanted = is_best_few(BOOK, rule, things)
                self.told(wanted, judge_paper, 4, rule, len(things), paper + (things,))

    def test_how_many_lists_there_are_is_told_by_the_lines(self):
        for lists in range(1, 5):
            paper = ([[(0, HALF)] for row in range(lists)], [], [0])
            self.let(3, LEAST, 1, paper)
            self.let(3, ("middle", lists), 1, paper)
            self.sent_back(3, ("middle", lists + 1), 1, paper)
            self.let(3, ("shares", [HALF] * lists), 1, paper)
            self.sent_back(3, ("shares", [HALF] * (lists + 1)), 1, paper)
            self.sent_back(3, ("shares", [HALF] * (lists - 1)), 1, paper)
        self.sent_back(3, LEAST, 0, ([], [], []))
        self.sent_back(3, LEAST, 0, ([[], [], [], [], []], [], []))
        self.sent_back(3, ("shares", []), 0, ([], [], []))
        self.sent_back(3, ("shares", [HALF] * 5), 0, ([[], [], [], [], []], [], []))

    def test_asked_worths_that_the_list_lets(self):
        read = [(3, ALL), (2, HALF)]
        for worth in (NONE, THIRD, (499999999999, 999999999999)):
            for thing in (0, 1, 4):
                self.let(5, LEAST, 5, ([read], [(0, thing, worth)], [0, 1, 2, 3, 4]))
        # Like the last read line's, of a greater and of a lesser thing.
        self.let(5, LEAST, 5, ([read], [(0, 4, HALF)], [0, 1, 2, 3, 4]))
        self.sent_back(5, LEAST, 5, ([read], [(0, 0, HALF)], [0, 1, 2, 3, 4]))
        self.sent_back(5, LEAST, 5, ([read], [(0, 1, HALF)], [0, 1, 2, 3, 4]))
        # More than the last read line's, also less than the first one's.
        for worth in ((500000000000, 999999999999), (2, 3), ALL):
            for thing in (0, 1, 4):
                self.sent_back(5, LEAST, 5, ([read], [(0, thing, worth)], [0, 1, 2, 3, 4]))
        # Where no line is read, any worth is let.
        for worth in (NONE, HALF, ALL):
            for thing in range(5):
                self.let(5, LEAST, 5, ([read, []], [(1, thing, worth)], [0, 1, 2, 3, 4]))

    def test_asked_things_that_are_also_read(self):
        read = [(3, ALL), (2, HALF)]
        self.let(5, LEAST, 1, ([read], [(0, 2, HALF)], [3]))
        self.let(5, LEAST, 1, ([read], [(0, 2, HALF), (0, 3, ALL)], [3]))
        for worth in (NONE, THIRD, (499999999999, 999999999999), ALL):
            self.sent_back(5, LEAST, 1, ([read], [(0, 2, worth)], [3]))
        for worth in (NONE, THIRD, HALF):
            self.sent_back(5, LEAST, 1, ([read], [(0, 3, worth)], [3]))
        # In the other list it isn't read.
        self.let(5, ("greatest",), 1, ([read, []], [(1, 2, THIRD)], [3]))

    def test_a_last_read_worth_of_nought(self):
        for many in (1, 2, 3):
            self.let(many, LEAST, 1, ([[(0, NONE)]], [], [0]))
        # A thing less than the last read one's would have to be worth less than nothing.
        self.sent_back(2, LEAST, 1, ([[(1, NONE)]], [], [1]))
        self.sent_back(2, LEAST, 2, ([[(1, NONE)]], [], [0, 1]))
        self.sent_back(2, LEAST, 2, ([[(1, NONE)]], [(0, 0, NONE)], [0, 1]))
        self.let(2, LEAST, 2, ([[(0, NONE), (1, NONE)]], [], [0, 1]))
        self.let(2, LEAST, 2, ([[(0, HALF), (1, NONE)]], [], [0, 1]))
        self.let(3, LEAST, 2, ([[(0, HALF), (1, NONE)]], [], [0, 1]))
        self.let(3, LEAST, 2, ([[(0, HALF), (1, NONE)]], [(0, 2, NONE)], [0, 1]))
        self.sent_back(3, LEAST, 2, ([[(0, HALF), (2, NONE)]], [], [0, 2]))
        self.sent_back(3, LEAST, 0, ([[(0, HALF)], [(0, HALF), (2, NONE)]], [], []))
        self.let(3, LEAST, 2, ([[(1, HALF), (0, NONE)]], [], [0, 1]))

    def test_lines_that_do_not_stand_in_the_reading_order(self):
        self.let(3, LEAST, 0, ([[(0, HALF), (1, HALF), (2, HALF)]], [], []))
        self.sent_back(3, LEAST, 0, ([[(0, HALF), (2, HALF), (1, HALF)]], [], []))
        self.sent_back(3, LEAST, 0, ([[(1, HALF), (0, HALF)]], [], []))
        self.sent_back(3, LEAST, 0, ([[(0, HALF), (1, (500000000000, 999999999999))]], [], []))
        self.let(3, LEAST, 0, ([[(0, HALF), (1, (499999999999, 999999999999))]], [], []))
        self.sent_back(3, LEAST, 0, ([[(0, HALF)], [(0, ALL), (1, THIRD), (2, HALF)]], [], []))
        self.sent_back(3, LEAST, 0, ([[(0, THIRD), (1, ALL), (2, HALF)]], [], []))

    def test_a_thing_twice_in_a_list(self):
        self.sent_back(3, LEAST, 0, ([[(0, HALF), (0, HALF)]], [], []))
        self.sent_back(3, LEAST, 0, ([[(0, HALF), (0, THIRD)]], [], []))
        self.sent_back(3, LEAST, 0, ([[(0, HALF), (1, HALF), (0, THIRD)]], [], []))
        self.sent_back(1, LEAST, 0, ([[(0, HALF), (0, THIRD)]], [], []))
        # In two lists it may stand.
        self.let(3, LEAST, 1, ([[(0, HALF)], [(0, THIRD)]], [], [0]))

    def test_asked_ones_that_are_alike_or_do_not_rise(self):
        lines = [[], []]
        self.let(3, LEAST, 0, (lines, [(0, 0, HALF), (0, 1, THIRD), (1, 0, ALL)], []))
        self.sent_back(3, LEAST, 0, (lines, [(0, 0, HALF), (0, 0, HALF)], []))
        self.sent_back(3, LEAST, 0, (lines, [(0, 0, HALF), (0, 0, ALL)], []))
        self.sent_back(3, LEAST, 0, (lines, [(0, 1, HALF), (0, 0, HALF)], []))
        self.sent_back(3, LEAST, 0, (lines, [(1, 0, HALF), (0, 1, HALF)], []))
        self.sent_back(3, LEAST, 0, (lines, [(0, 0, HALF), (1, 0, HALF), (0, 1, HALF)], []))

    def test_things_that_are_no_rising_list(self):
        lines = [[(0, HALF), (1, HALF), (2, HALF)]]
        for count in range(4):
            for things in no_thing_lists(3):
                self.sent_back(3, LEAST, count, (lines, [], things))
        self.sent_back(3, LEAST, 2, (lines, [], [1, 0]))
        self.sent_back(3, LEAST, 2, (lines, [], [1, 1]))
        self.sent_back(3, LEAST, 1, (lines, [], [0, 1]))
        self.sent_back(3, LEAST, 2, (lines, [], [0]))
        self.sent_back(3, LEAST, 1, (lines, [], [3]))
        for things in ([0], [1], [2]):
            self.let(3, LEAST, 1, (lines, [], things))

    def test_true_and_false_are_no_numbers(self):
        lines, asked = [[(0, ALL), (1, ALL)]], [(0, 1, ALL)]
        self.let(2, LEAST, 1, (lines, asked, [1]))
        self.let(2, LEAST, 1, (lines, asked, [0]))
        self.sent_back(2, LEAST, 1, (lines, asked, [True]))
        self.sent_back(2, LEAST, 1, (lines, asked, [False]))
        for line in ((True, ALL), (1, (True, 1)), (1, (1, True)), (1, True)):
            self.sent_back(2, LEAST, 1, ([[(0, ALL), line]], [], [1]))
        for line in ((False, 1, ALL), (0, True, ALL), (0, 1, (True, 1)), (0, 1, (1, True)), (0, 1, True)):
            self.sent_back(2, LEAST, 1, (lines, [line], [1]))
        self.sent_back(2, ("middle", True), 1, (lines, asked, [1]))
        self.sent_back(2, ("shares", [(True, 1)]), 1, (lines, asked, [1]))

    def test_a_worth_that_comes_near_the_last_read_one_is_reckoned_with(self):
        # Thing 0 can't be worth 1/2 in list 0 itself, as it is less than thing 1, but nearly so.
        lines = [[(1, HALF)], []]
        self.let(2, LEAST, 1, (lines, [(1, 1, HALF)], [1]))
        self.sent_back(2, LEAST, 1, (lines, [(1, 1, (499999999999, 999999999999))], [1]))

    def test_each_rule(self):
        # By the looks thing 0 has 1/2 and 1/3; thing 1 has 1/2 at most, and 1/3 at most.
        lines, asked = [[(0, HALF)], [(0, THIRD)]], []
        for rule in rules(2):
            self.let(2, rule, 1, (lines, asked, [0]))
            wanted = rule[0] == "shares" and set(rule[1]) == {NONE}
            self.told(wanted, judge_paper, 2, rule, 1, (lines, asked, [1]))
        asked = [(1, 1, NONE)]
        self.let(2, ("product",), 1, ([[(0, NONE)], []], asked, [1]))
        self.let(2, ("least",), 1, ([[], []], asked, [0]))
        self.sent_back(2, ("greatest",), 1, ([[], []], asked, [0]))
        self.sent_back(2, ("shares", [HALF, HALF]), 1, ([[], []], asked, [0]))
        self.let(2, ("shares", [NONE, HALF]), 1, ([[], []], asked, [0]))

    def test_small_papers_against_all_books(self):
        numbers = Numbers(53)
        hair = Fraction(1, 10 ** 40)
        grid = [pair(worth) for worth in (Fraction(0), Fraction(1, 2) - hair, Fraction(1, 2), 1 - hair, Fraction(1))]
        wholes = [list(row) for row in product(grid, repeat=2)]
        two = [[list(row), list(other)] for row, other in product(wholes, wholes)]
        three = [[list(row)] for row in product(grid, repeat=3)]
        coarse = [NONE, HALF, ALL]
        seen = []
        for turn in range(1500):
            lists, many, books = ((2, 2, two), (1, 3, three), (1, 3, three))[turn % 3]
            lines = [[] for row in range(lists)]
            for row in lines:
                for step in range(numbers.below(many + 1)):
                    row.append((numbers.below(many), coarse[numbers.below(3)]))
                # Mostly such as stand in the order in which they are read.
                if numbers.below(4):
                    row.sort(key=lambda line: (-number(line[1]), line[0]))
            asks = [ask for ask in all_asks(lists, many) if not numbers.below(4)]
            asked = [ask + (coarse[numbers.below(3)],) for ask in asks]
            things = [thing for thing in range(many) if numbers.below(2)]
            rule = (rules(lists) + [("shares", [HALF] * lists)])[numbers.below(len(rules(lists)) + 1)]
            paper = (lines, asked, things)
            fitting = [book for book in books if fits(book, paper)]
            wanted = bool(fitting) and all(is_best_few(book, rule, things) for book in fitting)
            self.told(wanted, judge_paper, many, rule, len(things), paper)
            self.assertEqual(wanted, wanted_judgement(many, rule, len(things), paper), paper)
            seen.append((bool(fitting), wanted))
        for case, least in (((False, False), 100), ((True, False), 100), ((True, True), 100)):
            self.assertGreater(seen.count(case), least)

    def test_told_papers_with_one_part_changed(self):
        numbers = Numbers(54)
        seen = []
        sizes = ((1, 1, 1, 99), (1, 3, 1, 99), (2, 4, 1, 99), (3, 5, 2, 40), (4, 12, 12, 40))
        for lists, many, figures, parts in sizes * 2:
            book, rule = numbers.book(lists, many, figures), numbers.rule(lists, figures)
            count = 1 + numbers.below(many)
            looks = by_asking(book, rule, count)[1]
            looks = (looks[0], [ask for ask in all_asks(lists, many) if ask in looks[1] or not numbers.below(5)])
            paper = seen_paper(book, rule, count, looks)
            paths = parts_of(paper)
            for turn in range(parts):
                path = paths[numbers.below(len(paths))]
                for part in others_for(part_at(paper, path)):
                    other = changed(paper, path, lambda own: part)
                    wanted = wanted_judgement(many, rule, count, other)
                    self.assertIs(wanted, self.ask(judge_paper, many, rule, count, other), other)
                    seen.append(wanted)
        self.assertGreater(seen.count(True), 200)
        self.assertGreater(seen.count(False), 2000)

    def test_told_papers_with_all_worths_changed_alike(self):
        numbers = Numbers(55)
        hair = Fraction(1, 10 ** 13)
        deeds = [lambda worth: worth * 2, lambda worth: worth / 2, lambda worth: -worth, lambda worth: worth]
        deeds += [lambda worth: worth + hair, lambda worth: worth - hair]
        for turn in range(30):
            lists, many = 1 + numbers.below(4), 1 + numbers.below(12)
            book, rule, count = numbers.book(lists, many, 2), numbers.rule(lists, 1), numbers.below(many + 1)
            lines, asked, things = seen_paper(book, rule, count, by_asking(book, rule, count)[1])
            for deed in deeds:
                rows = [[(thing, pair(deed(number(worth)))) for thing, worth in row] for row in lines]
                for answers in (asked, [(row, thing, pair(deed(number(worth)))) for row, thing, worth in asked]):
                    paper = (rows, answers, things)
                    self.told(wanted_judgement(many, rule, count, paper), judge_paper, many, rule, count, paper)

    def test_it_says_what_sure_few_says(self):
        numbers = Numbers(56)
        for turn in range(150):
            lists, many = 1 + numbers.below(4), 1 + numbers.below(6)
            book, rule, looks = numbers.book(lists, many, 1), numbers.rule(lists, 1), numbers.looks(lists, many)
            asked = [(row, thing, book[row][thing]) for row, thing in looks[1]]
            for count in range(many + 1):
                few = [thing for thing in range(many) if numbers.below(2)]
                for things in (sure_few(book, rule, count, looks), few):
                    if things is not None:
                        wanted = other_book(book, rule, things, looks) is None
                        paper = (read_lines(book, looks[0]), asked, things)
                        self.told(wanted, judge_paper, many, rule, len(things), paper)

    def test_anything_is_answered(self):
        paper = ([[(0, HALF)], [(0, HALF)]], [(1, 1, THIRD)], [0])
        self.let(3, LEAST, 1, paper)
        for thing in ODD_THINGS + no_books() + no_rules(2) + no_looks(2, 3):
            for count in (0, 1, 3):
                self.sent_back(3, LEAST, count, thing)
                if thing != []:
                    self.sent_back(3, LEAST, count, (paper[0], thing, paper[2]))
                if not is_rising_list(thing, 3):
                    self.sent_back(3, LEAST, count, (paper[0], paper[1], thing))
            self.sent_back(3, LEAST, 1, (thing, paper[1], paper[2]))
            self.sent_back(3, LEAST, 1, (paper[0], paper[1] + [thing], paper[2]))
            self.sent_back(3, LEAST, 1, ([paper[0][0], paper[0][1] + [thing]], paper[1], paper[2]))
            if thing != []:
                self.sent_back(3, LEAST, 1, ([paper[0][0], thing], paper[1], paper[2]))
        for rule in no_rules(2):
            self.sent_back(3, rule, 1, paper)
        for worth in NO_WORTHS:
            self.sent_back(3, LEAST, 1, ([[(0, worth)], [(0, HALF)]], [], [0]))
            self.sent_back(3, LEAST, 1, (paper[0], [(1, 1, worth)], [0]))
        for line in ((3, HALF), (-1, HALF), ("0", HALF), (None, HALF), (0, HALF, HALF), (0,), [0, HALF]):
            self.sent_back(3, LEAST, 0, ([[line], []], [], []))
        for ask in ((0, 3), (2, 0), (-1, 0), (0, -1), (None, 0), (0, None), (0,), (0, 0, HALF)):
            self.sent_back(3, LEAST, 0, ([[], []], [ask + (HALF,)], []))
        self.sent_back(3, LEAST, 0, ([[], []], [[0, 0, HALF]], []))
        self.sent_back(3, LEAST, 0, [[[], []], [], []])
        self.sent_back(3, LEAST, 0, ([[], []], [], [], []))

    def test_refusals(self):
        paper = ([[]], [], [])
        for many in [thing for thing in ODD_THINGS if not is_whole(thing)] + [0, -1, 13, 14, 10 ** 59, -(10 ** 59)]:
            for count in (0, 1, -1, None, True):
                for rule in (LEAST, None):
                    self.refused(NoCount, judge_paper, many, rule, count, paper)
                    self.refused(NoCount, judge_paper, many, rule, count, None)
        for many in range(1, 13):
            for count in no_counts(many):
                for rule in (LEAST, None):
                    self.refused(NoCount, judge_paper, many, rule, count, paper)
                    self.refused(NoCount, judge_paper, many, rule, count, None)
            self.let(many, LEAST, 0, paper)
            self.sent_back(many, LEAST, many, paper)

    def test_the_largest_is_told_soon(self):
        numbers = Numbers(57)
        book = numbers.book(4, 12, 12)
        for rule in rules(4) + [numbers.rule(4, 12)]:
            for looks in (([12] * 4, all_asks(4, 12)), ([0] * 4, all_asks(4, 12)), ([11] * 4, all_asks(4, 12)[::2])):
                for count in (0, 5, 12):
                    few = sure_few(book, rule, count, looks)
                    if few is not None:
                        paper = self.soon(seen_paper, book, rule, count, looks)
                        self.assertIs(True, self.soon(judge_paper, 12, rule, count, paper))
        paper = ([[(0, HALF)] * 400 for row in range(4)], [(0, 0, HALF)] * 400, [0] * 400)
        self.assertIs(False, self.soon(judge_paper, 12, LEAST, 1, paper))

    def test_papers_of_told_books(self):
        numbers = Numbers(58)
        for turn in range(10):
            book, rule = numbers.book(4, 12, 12), numbers.rule(4, 12)
            told = other_book(book, rule, [0, 1, 2], ([2] * 4, [(0, 0)])) or book
            self.assertTrue(agrees(told, book, ([2] * 4, [(0, 0)])))
            paper = self.soon(seen_paper, told, rule, 3, ([12] * 4, []))
            self.assertIs(True, self.soon(judge_paper, 12, rule, 3, paper))


if __name__ == "__main__":
    unittest.main()
