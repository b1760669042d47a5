import re
import unittest
from fractions import Fraction
from itertools import product
from math import gcd

from helper import (
    Case, Numbers, count_looks, number, pair, wanted_bounds, wanted_few, wanted_order, wanted_sure,
)

from bestheads.beaten import book_layers, unbeaten
from bestheads.desk import Desk
from bestheads.errors import HeadError, NoBook, NoCount, NoLine, NoRule, TooMany
from bestheads.rooms import few_room
from bestheads.ways import by_asking, by_hope, by_rounds, least_reading

FRACTION = re.compile(r"(0|[1-9][0-9]{0,11})(?:/([1-9][0-9]{0,11}))?")
NUMBER = re.compile(r"0|[1-9][0-9]{0,59}")
TWELVE, THIRTEEN, SIXTY, SIXTY_ONE = "9" * 12, "1" + "0" * 12, "9" * 60, "1" + "0" * 60
BARE_WORDS = "take drop few sure looks again rounds asking hope least unbeaten layers".split()

# Lines that have none of the forms; a book of two lists of two things is taken.
NO_FORMS = (
    "| |nothing|Few|FEW|few few|few,|a|0|1/2|none|end|no"
    "|list|list |list a|list -1|list 1 |list  1|list 1  1|list 2/4|list 1/1|list 01|list 1/0|list 0/1|list 0.5|list 1 a"
    "|list +1|list 1/2/3|list /2"
    "|count|count |count a|count -1|count 01|count 00|count +1|count 1 |count  1|count 1 1|count 1/2|count 1.0"
    "|read 0 0|read 0 |bounds 0 0|bounds 0 |ask|ask 0|ask 0 0 0|ask 0 0 |room|room 0|room 0 0 0|room 0 0 "
    "|put|put 0|put 0 0|put 2 0 1/2|put 0 2 1/2|put a 0 1/2|put 0 -1 1/2|put  0 0 1/2|put 0 0 1/2 |put 00 0 1/2"
    "|rule|rule |rule a|rule  least|rule least |rule Least|rule least 1|rule greatest least|rule product 1|rule sum"
    "|rule shares|rule shares |rule shares a b|rule shares 1  1|rule shares 1 1 |rule shares 1 2/4|rule shares -1 1"
    "|rule shares 1 1/1|rule shares 01 1|rule shares 1,1"
    "|rule middle|rule middle |rule middle a|rule middle -1|rule middle 01|rule middle 00|rule middle +1"
    "|rule middle 1/2|rule middle 1 1|rule middle  1|rule middle 1 |rule middle 1.0"
)
NO_PLACES = "| | a| -1| 2| 3| 00| 01| +0| 0/1| 0.0|  0| 1/2| None| True| 1e0"
NO_PUTS = "| | 2| 3/2| 2/4| 1/1| -1| -1/2| a| 1/0| 0/1| 01| 1/2 |  1/2| 1/2 1/2| 0.5|/2| 1/"


def fraction_of(word):
    found = FRACTION.fullmatch(word)
    if not found or found[2] == "1" or (found[2] and gcd(int(found[1]), int(found[2])) > 1):
        return None
    return (int(found[1]), int(found[2] or 1))


def shown(worth):
    return str(Fraction(*worth))


class Model:
    """A desk by the words of the document: the answer to a line, or the class of its refusal."""

    def __init__(self):
        self.told, self.book, self.rule, self.count = [], [[(1, 1)]], ("least",), 1
        self.again()

    def again(self):
        self.depths, self.asked = [0] * len(self.book), set()
        return "again"

    def looks(self):
        return (self.depths, sorted(self.asked))

    def answer(self, line):
        word, *rest = line.split(" ")
        if word in BARE_WORDS:
            return getattr(self, "tell_" + word)() if not rest else NoLine
        if word in ("list", "rule"):
            return getattr(self, "tell_" + word)(rest)
        kinds = {"count": "K", "read": "I", "ask": "IJ", "bounds": "J", "room": "IJ", "put": "IJF"}.get(word)
        if kinds is None or len(kinds) != len(rest):
            return NoLine
        values = [self.value(kind, part) for kind, part in zip(kinds, rest)]
        return NoLine if None in values else getattr(self, "tell_" + word)(*values)

    def value(self, kind, word):
        if kind == "F":
            worth = fraction_of(word)
            return worth if worth and number(worth) <= 1 else None
        if not NUMBER.fullmatch(word):
            return None
        many = {"I": len(self.book), "J": len(self.book[0]), "K": 10 ** 61}[kind]
        return int(word) if int(word) < many else None

    def tell_list(self, words):
        row = [fraction_of(word) for word in words]
        if not row or None in row or len(self.told) > 3:
            return NoLine
        self.told.append(row)
        return f"list {len(self.told) - 1}"

    def tell_take(self):
        if not self.told:
            return NoLine
        lengths = {len(row) for row in self.told}
        if len(lengths) > 1 or max(lengths) > 12 or any(number(worth) > 1 for row in self.told for worth in row):
            return NoBook
        self.book, self.told, self.rule, self.count = self.told, [], ("least",), 1
        self.again()
        return f"lists {len(self.book)}"

    def tell_drop(self):
        if not self.told:
            return NoLine
        self.told = []
        return "drop"

    def tell_rule(self, words):
        if words in (["least"], ["greatest"], ["product"]):
            self.rule = tuple(words)
        elif words[:1] == ["shares"]:
            weights = [fraction_of(word) for word in words[1:]]
            if not weights or None in weights:
                return NoLine
            if len(weights) != len(self.book):
                return NoRule
            self.rule = ("shares", weights)
        else:
            if words[:1] != ["middle"] or len(words) != 2 or not re.fullmatch(r"0|[1-9][0-9]{0,11}", words[1]):
                return NoLine
            if not 1 <= int(words[1]) <= len(self.book):
                return NoRule
            self.rule = ("middle", int(words[1]))
        return "rule"

    def tell_count(self, count):
        if count > len(self.book[0]):
            return NoCount
        self.count = count
        return "count"

    def tell_few(self):
        lines = [f"{thing}:{shown(worth)}" for thing, worth in wanted_few(self.book, self.rule, self.count)]
        return " ".join(lines) or "none"

    def tell_read(self, place):
        order = wanted_order(self.book[place])[self.depths[place]:]
        if not order:
            return "end"
        self.depths[place] += 1
        return f"{order[0]}:{shown(self.book[place][order[0]])}"

    def tell_ask(self, place, thing):
        self.asked.add((place, thing))
        return shown(self.book[place][thing])

    def tell_bounds(self, thing):
        return " ".join(map(shown, wanted_bounds(self.book, self.rule, self.looks())[thing]))

    def tell_sure(self):
        things = wanted_sure(self.book, self.rule, self.count, self.looks())
        return "no" if things is None else " ".join(map(str, things)) or "none"

    def tell_looks(self):
        return "{} {}".format(*count_looks(self.book, self.looks()))

    tell_again = again

    def given(self):
        return (self.book, self.rule, self.count)

    def tell_rounds(self):
        return str(by_rounds(*self.given())[0])

    def tell_asking(self):
        rounds, looks, things = by_asking(*self.given())
        return "{} {} {}".format(rounds, *count_looks(self.book, looks))

    def tell_hope(self):
        return "{} {}".format(*count_looks(self.book, by_hope(*self.given())[0]))

    def tell_least(self):
        if len(self.book) > 3 or len(self.book[0]) > 8:
            return TooMany
        return " ".join(map(str, least_reading(*self.given())[0]))

    def tell_room(self, place, thing):
        return " ".join(map(shown, few_room(*self.given(), place, thing)))

    def tell_put(self, place, thing, worth):
        self.book[place][thing] = worth
        self.again()
        return "put"

    def tell_unbeaten(self):
        return " ".join(map(str, unbeaten(self.book)))

    def tell_layers(self):
        return " ".join([str(len(layer)) for layer in book_layers(self.book)])


class DeskCase(Case):
    def say(self, desk, script):
        """Tell a desk lines, each with the answer behind an arrow, or the class of its refusal."""
        for row in script.strip().splitlines():
            line, answer = row.strip().split(" -> ")
            refusals = {"NoLine": NoLine, "NoBook": NoBook, "NoRule": NoRule, "NoCount": NoCount, "TooMany": TooMany}
            if answer in refusals:
                self.refused(refusals[answer], desk.tell, line)
            else:
                self.assertEqual(answer, self.ask(desk.tell, line), row)

    def refuses(self, desk, refusal, lines):
        for line in lines:
            self.refused(refusal, desk.tell, line)


def taken(*rows):
    """A desk that has taken these lists."""
    desk = Desk()
    for row in rows:
        desk.tell("list " + row)
    desk.tell("take")
    return desk


class Lines(DeskCase):
    def test_the_beginning(self):
        self.say(Desk(), """
            few -> 0:1
            sure -> 0
            looks -> 0 0
            bounds 0 -> 0 1
            rounds -> 0
            asking -> 0 0 0
            hope -> 0 0
            least -> 0
            room 0 0 -> 0 1
            unbeaten -> 0
            layers -> 1
            read 0 -> 0:1
            read 0 -> end
            bounds 0 -> 1 1
            rule middle 1 -> rule
            rule middle 2 -> NoRule
            count 2 -> NoCount
            take -> NoLine
            drop -> NoLine
            read 1 -> NoLine
            ask 0 1 -> NoLine
        """)

    def test_a_whole_talk(self):
        self.say(Desk(), """
            list 9/10 4/5 1/10 0 -> list 0
            list 1/10 7/10 4/5 0 -> list 1
            few -> 0:1
            take -> lists 2
            few -> 1:7/10
            rule shares 1 1 -> rule
            few -> 1:3/2
            count 2 -> count
            few -> 1:3/2 0:1
            count 4 -> count
            few -> 1:3/2 0:1 2:9/10 3:0
            count 1 -> count
            sure -> no
            read 0 -> 0:9/10
            read 1 -> 2:4/5
            looks -> 2 0
            bounds 0 -> 9/10 17/10
            bounds 3 -> 0 17/10
            ask 1 0 -> 1/10
            looks -> 2 1
            ask 1 0 -> 1/10
            looks -> 2 1
            ask 1 2 -> 4/5
            looks -> 2 1
            bounds 0 -> 1 1
            sure -> no
            read 0 -> 1:4/5
            read 1 -> 1:7/10
            sure -> no
            ask 0 2 -> 1/10
            sure -> 1
            looks -> 4 2
            count 0 -> count
            sure -> none
            few -> none
            count 1 -> count
            rule least -> rule
            few -> 1:7/10
            looks -> 4 2
            again -> again
            looks -> 0 0
            sure -> no
            rule shares 1 1 -> rule
            rounds -> 3
            asking -> 2 4 2
            hope -> 6 0
            least -> 3 3
            looks -> 0 0
            room 0 1 -> 3/10 1
            room 1 0 -> 0 3/5
            unbeaten -> 0 1 2
            layers -> 3 1
            read 0 -> 0:9/10
            put 1 0 1 -> put
            looks -> 0 0
            few -> 0:19/10
            unbeaten -> 0
            layers -> 1 2 1
        """)

    def test_reading_to_the_end(self):
        self.say(taken("1/2 1/2 1", "0 1/3 1/3"), """
            read 0 -> 2:1
            read 0 -> 0:1/2
            read 0 -> 1:1/2
            read 0 -> end
            read 0 -> end
            looks -> 3 0
            read 1 -> 1:1/3
            read 1 -> 2:1/3
            read 1 -> 0:0
            read 1 -> end
            looks -> 6 0
            ask 0 0 -> 1/2
            looks -> 6 0
        """)

    def test_looks_stay_through_rule_and_count(self):
        self.say(taken("1/2 1/3", "1/3 1/2"), """
            read 0 -> 0:1/2
            ask 1 1 -> 1/2
            rule greatest -> rule
            looks -> 1 1
            count 2 -> count
            looks -> 1 1
            rule shares 0 7/2 -> rule
            count 0 -> count
            looks -> 1 1
            bounds 1 -> 7/4 7/4
            read 0 -> 1:1/3
        """)

    def test_each_rule(self):
        self.say(taken("1/2 1/3", "1/4 1", "1/5 1/6"), """
            count 2 -> count
            rule least -> rule
            few -> 0:1/5 1:1/6
            rule greatest -> rule
            few -> 1:1 0:1/2
            rule product -> rule
            few -> 1:1/18 0:1/40
            rule middle 1 -> rule
            few -> 1:1 0:1/2
            rule middle 2 -> rule
            few -> 1:1/3 0:1/4
            rule middle 3 -> rule
            few -> 0:1/5 1:1/6
            rule shares 0 0 0 -> rule
            few -> 0:0 1:0
            rule shares 2 4 5/2 -> rule
            few -> 1:61/12 0:5/2
        """)

    def test_take_begins_all_anew(self):
        desk = taken("1/2 1/3", "1/3 1/2")
        self.say(desk, """
            rule greatest -> rule
            count 2 -> count
            read 0 -> 0:1/2
            ask 1 0 -> 1/3
            list 1/4 1/5 1/6 -> list 0
            looks -> 1 1
            take -> lists 1
            looks -> 0 0
            few -> 0:1/4
            take -> NoLine
            count 3 -> count
            read 1 -> NoLine
            list 1/3 1/2 -> list 0
            list 1 1 -> list 1
            take -> lists 2
            few -> 1:1/2
        """)

    def test_a_telling_stays_through_all_other_lines(self):
        desk = taken("1/2 1/3", "1/3 1/2")
        lines = "rule product|count 2|few|read 0|read 0|read 0|ask 1 1|bounds 0|sure|looks|again"
        lines += "|rounds|asking|hope|least|room 1 1|put 0 0 1|unbeaten|layers"
        self.say(desk, "list 1/4 -> list 0")
        for line in lines.split("|"):
            desk.tell(line)
        # Neither a refused line nor a refused take ends it.
        self.say(desk, """
            nothing -> NoLine
            rule middle 3 -> NoRule
            count 3 -> NoCount
            list -> NoLine
            list 1/5 1/6 -> list 1
            take -> NoBook
            take -> NoBook
            list 1/7 -> list 2
            take -> NoBook
            drop -> drop
            drop -> NoLine
            list 1/8 -> list 0
            list 1/9 -> list 1
            take -> lists 2
            few -> 0:1/9
        """)

    def test_drop_leaves_the_book(self):
        self.say(taken("1/2 1/3"), """
            rule greatest -> rule
            count 2 -> count
            read 0 -> 0:1/2
            list 1 -> list 0
            drop -> drop
            few -> 0:1/2 1:1/3
            looks -> 1 0
            take -> NoLine
        """)

    def test_at_most_four_lists_are_told(self):
        desk = Desk()
        for at in range(4):
            self.assertEqual(f"list {at}", self.ask(desk.tell, "list 1/2"))
        self.refuses(desk, NoLine, ["list 1/2", "list 1", "list 1/2 1/2", "list"])
        self.say(desk, """
            take -> lists 4
            list 1/2 -> list 0
        """)

    def test_take_of_what_is_no_book(self):
        thirteen = " ".join(["1/2"] * 13)
        for rows in (["2"], ["1/2 3/2"], ["1/2", "1/2 1/2"], ["1/2 1/2", "1/2"], [thirteen], ["1", "1", "1", "7"]):
            desk = taken("1/3 1/4", "1/5 1/6")
            desk.tell("rule greatest")
            desk.tell("count 2")
            desk.tell("read 1")
            for row in rows:
                desk.tell("list " + row)
            self.refuses(desk, NoBook, ["take", "take"])
            self.say(desk, """
                few -> 0:1/3 1:1/4
                looks -> 1 0
                drop -> drop
                take -> NoLine
                few -> 0:1/3 1:1/4
            """)

    def test_take_of_the_largest_book(self):
        desk = Desk()
        for at in range(4):
            self.assertEqual(f"list {at}", desk.tell("list" + " 1/2" * 12))
        self.say(desk, """
            take -> lists 4
            count 12 -> count
            layers -> 12
            ask 3 11 -> 1/2
        """)

    def test_least_with_too_many(self):
        for lists, things in ((4, 1), (4, 8), (1, 9), (3, 9), (4, 12)):
            desk = taken(*[" ".join(["1/2"] * things)] * lists)
            self.refuses(desk, TooMany, ["least"])
            self.refuses(desk, NoLine, ["least 1", "least "])
        # Each thing is worth 1/2 at most as soon as a line of one list is read, and thing 0 is when all its are.
        self.assertEqual("1 1 1", taken(*[" ".join(["1/2"] * 8)] * 3).tell("least"))

    def test_numbers_with_many_figures(self):
        nines, less = "9" * 12, "9" * 11 + "8"
        self.say(taken("1/2 1/3"), f"""
            list {less}/{nines} {nines} 1/{nines} -> list 0
            list {THIRTEEN} -> NoLine
            list 1/{THIRTEEN} -> NoLine
            list {THIRTEEN}/{nines} -> NoLine
            drop -> drop
            put 0 0 {less}/{nines} -> put
            put 0 0 1/{THIRTEEN} -> NoLine
            few -> 0:{less}/{nines}
            rule shares {nines} -> rule
            rule shares {THIRTEEN} -> NoLine
            rule shares 1/{THIRTEEN} -> NoLine
            rule middle {nines} -> NoRule
            rule middle {THIRTEEN} -> NoLine
            count {THIRTEEN} -> NoCount
            count {SIXTY} -> NoCount
            count {SIXTY_ONE} -> NoLine
            count 0{SIXTY} -> NoLine
            read {SIXTY} -> NoLine
            read {SIXTY_ONE} -> NoLine
            ask 0 {SIXTY} -> NoLine
            bounds {SIXTY} -> NoLine
            few -> 0:{less}
        """)

    def test_rules_that_are_none_for_the_book(self):
        desk = taken("1/2 1/3", "1/4 1")
        refused = ["middle 0", "middle 3", "middle 4", "shares 1", "shares 1 1 1", "shares 1/2 1/2 1/2 1/2 1/2"]
        self.refuses(desk, NoRule, ["rule " + rule for rule in refused])
        self.assertEqual("1:1/3", desk.tell("few"))

    def test_lines_that_have_no_form(self):
        desk = taken("1/2 1/3", "1/4 1")
        desk.tell("list 1/2")
        lines = NO_FORMS.split("|") + ["\n", "few\n", "\nfew", "list 1\n", "list\n1"]
        lines += ["count 1\n", "rule\nleast", "rule least\n"]
        for word in BARE_WORDS:
            lines += [word + tail for tail in (" ", " 0", " 1/2", "\n", "s", "  ")]
            lines += [" " + word, word.upper(), word[:-1]]
        for word, tail in (("read", ""), ("bounds", ""), ("ask", " 0"), ("room", " 0"), ("ask 0", ""), ("room 0", "")):
            lines += [word + given + tail for given in NO_PLACES.split("|")]
        for worth in NO_PUTS.split("|"):
            lines += ["put 0 0" + worth, "put 1 1" + worth]
        for line in lines:
            self.refused(NoLine, desk.tell, line)
        # None of them has changed anything.
        self.say(desk, """
            few -> 1:1/3
            looks -> 0 0
            list 1/2 -> list 1
        """)

    def test_things_that_are_no_text(self):
        for thing in (None, True, False, 0, 1, (), [], ("few",), ["few"]):
            self.refused(NoLine, Desk().tell, thing)

    def test_two_desks_have_nothing_in_common(self):
        one, other = Desk(), Desk()
        self.say(one, """
            list 1/2 -> list 0
            put 0 0 1/3 -> put
            read 0 -> 0:1/3
            count 0 -> count
            rule product -> rule
        """)
        for desk in (other, Desk()):
            self.say(desk, """
                few -> 0:1
                looks -> 0 0
                take -> NoLine
                list 1/5 -> list 0
            """)

    def test_puts_change_the_desks_own_book_alone(self):
        desk = taken("1/2 1/3")
        self.say(desk, """
            put 0 1 1 -> put
            few -> 1:1
            put 0 1 0 -> put
            few -> 0:1/2
            room 0 0 -> 0 1
            room 0 1 -> 0 1/2
        """)

    def test_the_largest_is_told_soon(self):
        numbers = Numbers(121)
        desk = taken(*[" ".join([shown(pair(numbers.worth(12))) for thing in range(12)]) for row in range(4)])
        weights = " ".join([shown(pair(abs(numbers.fraction(12)))) for row in range(4)])
        for rule in ("least", "greatest", "product", "middle 2", "shares " + weights):
            desk.tell("rule " + rule)
            desk.tell("count 5")
            lines = "few|sure|read 3|ask 2 11|bounds 5|looks|rounds|asking|hope|room 3 3|unbeaten|layers|put 3 11 1/3"
            for line in lines.split("|"):
                self.soon(desk.tell, line)
        for line in ("a" * 4000, "list " + "1 " * 1990, "list " + "9" * 3990, " " * 4000, "put " + "9" * 3990):
            self.refused(NoLine, desk.tell, line)
        self.assertEqual("list 0", self.soon(desk.tell, "list" + " 1" * 1990))


def some_fraction(numbers):
    if numbers.below(12) == 0:
        return ("2", "3/2", "1/1", "2/4", "01", "-1", "x", "1/0", TWELVE, THIRTEEN)[numbers.below(10)]
    return shown(numbers.grid(1, 1, 1 + numbers.below(5))[0][0])


def some_line(numbers):
    """A line that is mostly in order, at times one with a fault."""
    words = BARE_WORDS + "list list list rule rule count read read ask ask bounds room put".split()
    word = words[numbers.below(len(words))]
    near = [str(numbers.below(4)) for at in range(3)]
    if word == "list":
        line = " ".join(["list"] + [some_fraction(numbers) for at in range((2, 3, 3, 3, 13)[numbers.below(5)])])
    elif word == "rule":
        weights = " ".join([some_fraction(numbers) for at in range(1 + numbers.below(4))])
        choices = ("least", "greatest", "product", "middle " + near[0], "shares " + weights)
        line = "rule " + choices[numbers.below(5)]
    else:
        kinds = {"count": 1, "read": 1, "ask": 2, "bounds": 1, "room": 2, "put": 2}.get(word, 0)
        line = " ".join([word] + near[:kinds] + ([some_fraction(numbers)] if word == "put" else []))
    if numbers.below(15) == 0:
        at = numbers.below(len(line) + 1)
        line = (line[:at] + " " + line[at:], line[:at] + line[at + 1:], line + "\n", line + " 0")[numbers.below(4)]
    return line


class Talks(DeskCase):
    def test_long_talks_by_the_documents_words(self):
        numbers = Numbers(122)
        seen = {}
        for talk in range(60):
            desk, model = Desk(), Model()
            for turn in range(120):
                line = some_line(numbers)
                wanted = model.answer(line)
                if isinstance(wanted, str):
                    self.assertEqual(wanted, self.ask(desk.tell, line), line)
                    key = (line.split(" ")[0], wanted if wanted in ("none", "no", "end") else "")
                else:
                    self.refused(wanted, desk.tell, line)
                    key = wanted
                seen[key] = seen.get(key, 0) + 1
        for refusal in (NoLine, NoBook, NoRule, NoCount):
            self.assertGreater(seen[refusal], 20)
        for word in BARE_WORDS + "list rule count read ask bounds room put".split():
            self.assertGreater(seen[(word, "")], 10, word)
        for word, answer in (("few", "none"), ("sure", "none"), ("sure", "no"), ("read", "end")):
            self.assertGreater(seen[(word, answer)], 5, word)

    def test_answers_are_texts_and_refusals_are_head_errors(self):
        numbers = Numbers(123)
        desk = Desk()
        for turn in range(500):
            try:
                answer = desk.tell(some_line(numbers))
            except HeadError:
                continue
            self.assertIs(str, type(answer))
            self.assertRegex(answer, r"\A[ -~]+\Z")
            self.assertEqual(answer.split(), answer.split(" "))


if __name__ == "__main__":
    unittest.main()
