import itertools
import re
import unittest

from tests.samples import (
    WHEELS, counts_by_hand, crowd_from_bits, distance_by_hand, image_of_tones, move_by_hand, ways_by_hand,
    well_mixed_numbers,
)
from tests.sayings_by_hand import change_by_hand, read_by_hand
from tonemirror.desk import Desk
from tonemirror.errors import NoLeading, NoRow, NoText, ToneError, Unknown

NAME = "([a-z]{1,8})"
# Each sort of row, by the forms of its parts; what is no name is no row either, and only a saying has blanks.
ROWS = [
    ("crowd", f"crowd {NAME} ([^ ]*)"),
    ("move", f"move {NAME} {NAME} (.*)"),
    ("others", f"others {NAME} {NAME}"),
    ("common", f"common {NAME} {NAME} {NAME}"),
    ("show", f"show {NAME}"),
    ("least", f"least {NAME}"),
    ("ways", f"ways {NAME} {NAME}"),
    ("counts", f"counts {NAME}"),
    ("sums", f"sums {NAME}"),
    ("lead", f"lead {NAME} {NAME}"),
    ("saying", "saying (.*)"),
    ("kind", f"kind {NAME}"),
]
# A row for each sort that stands where a, b and c are names of crowds of three tones.
GOOD_ROWS = [
    "crowd a 0,4,7", "move b a t2", "move c a (t1 m4)*3", "others d a", "common e a b", "show a", "least b",
    "ways a b", "counts a", "sums b", "lead a b", "saying ~(t5*3)", "kind a",
]


def by_commas(numbers):
    return ",".join(map(str, numbers)) or "-"


def change_by_letters(change):
    return ("t%d" if change[0] == "turn" else "m%d") % change[1]


def crowd_by_hand(n, text):
    """The crowd that a text is written of, or None."""
    if text == "-":
        return ()
    if not re.fullmatch(r"(0|[1-9][0-9]?)(,(0|[1-9][0-9]?))*", text):
        return None
    tones = [int(part) for part in text.split(",")]
    rising = all(one < other for one, other in zip(tones, tones[1:]))
    return tuple(tones) if rising and tones[-1] < n else None


def changed_by_hand(n, crowd, change):
    image = image_of_tones(n, change)
    return tuple(sorted(image[tone] for tone in crowd))


def lead_by_hand(n, one, other):
    """All leadings are looked at; so only for few tones."""
    best = min(
        (
            sum(distance_by_hand(n, a, b) for a, b in zip(one, seconds)),
            sum(move_by_hand(n, a, b) ** 2 for a, b in zip(one, seconds)),
            seconds,
        )
        for seconds in itertools.permutations(other)
    )
    return "%d %s" % (best[0], ",".join("%d>%d" % pair for pair in zip(one, best[2])) or "-")


class ByHand:
    """Point 27 by patterns. A refusal is answered as its class."""

    def __init__(self, n):
        self.n = n
        self.crowds = {}
        self.firsts = []

    def say(self, row):
        for word, pattern in ROWS:
            match = re.fullmatch(pattern, row, re.DOTALL)
            if match:
                return getattr(self, word)(*match.groups())
        return NoRow

    def keep(self, name, crowd):
        self.crowds[name] = crowd
        return by_commas(crowd)

    def known(self, *names):
        return all(name in self.crowds for name in names)

    def crowd(self, name, text):
        crowd = crowd_by_hand(self.n, text)
        return NoText if crowd is None else self.keep(name, crowd)

    def move(self, new, old, text):
        if not self.known(old):
            return Unknown
        saying = read_by_hand(self.n, text)
        if saying is None:
            return NoText
        return self.keep(new, changed_by_hand(self.n, self.crowds[old], change_by_hand(self.n, saying)))

    def others(self, new, old):
        if not self.known(old):
            return Unknown
        return self.keep(new, tuple(sorted(set(range(self.n)) - set(self.crowds[old]))))

    def common(self, new, one, other):
        if not self.known(one, other):
            return Unknown
        return self.keep(new, tuple(sorted(set(self.crowds[one]) & set(self.crowds[other]))))

    def show(self, name):
        return by_commas(self.crowds[name]) if self.known(name) else Unknown

    def least(self, name):
        if not self.known(name):
            return Unknown
        turns = [("turn", k) for k in range(self.n)] + [("mirror", k) for k in range(self.n)]
        return by_commas(min(changed_by_hand(self.n, self.crowds[name], change) for change in turns))

    def ways(self, one, other):
        if not self.known(one, other):
            return Unknown
        return " ".join(map(change_by_letters, ways_by_hand(self.n, self.crowds[one], self.crowds[other]))) or "-"

    def counts(self, name):
        return by_commas(counts_by_hand(self.n, self.crowds[name])) if self.known(name) else Unknown

    def sums(self, name):
        if not self.known(name):
            return Unknown
        pairs = [(a + b) % self.n for a in self.crowds[name] for b in self.crowds[name]]
        return by_commas([pairs.count(k) for k in range(self.n)])

    def lead(self, one, other):
        if not self.known(one, other):
            return Unknown
        if len(self.crowds[one]) != len(self.crowds[other]):
            return NoLeading
        return lead_by_hand(self.n, self.crowds[one], self.crowds[other])

    def saying(self, text):
        saying = read_by_hand(self.n, text)
        return NoText if saying is None else change_by_letters(change_by_hand(self.n, saying))

    def kind(self, name):
        if not self.known(name):
            return Unknown
        crowd = self.crowds[name]
        for kind, first in enumerate(self.firsts):
            found = ways_by_hand(self.n, first, crowd)
            if found:
                return "%d %s" % (kind, change_by_letters(found[0]))
        self.firsts.append(crowd)
        return "%d t0" % (len(self.firsts) - 1)


def answered(desk, row):
    """The answer, or the class of the refusal."""
    try:
        return desk.say(row)
    except ToneError as refusal:
        return type(refusal)


class Asking(unittest.TestCase):
    def check(self, desk, row, text):
        told = desk.say(row)
        self.assertIs(type(told), str)
        self.assertEqual(told, text, row)

    def refused(self, desk, row, error):
        with self.assertRaises(ToneError, msg=row) as caught:
            desk.say(row)
        self.assertIs(type(caught.exception), error, row)

    def desk(self):
        """a and b are alike, c is not; d has four tones, none no tones, whole all of them."""
        desk = Desk(12)
        for row in (
            "crowd a 0,4,7", "crowd b 0,3,7", "crowd c 0,4,8", "crowd d 0,1,4,6", "crowd none -",
            "crowd whole 0,1,2,3,4,5,6,7,8,9,10,11",
        ):
            desk.say(row)
        return desk


class RowsThatPut(Asking):
    def test_crowd(self):
        desk = Desk(12)
        self.check(desk, "crowd a 0,4,7", "0,4,7")
        self.check(desk, "show a", "0,4,7")
        self.check(desk, "crowd b -", "-")
        self.check(desk, "show b", "-")
        self.check(desk, "crowd c 11", "11")
        self.check(desk, "show c", "11")
        self.check(desk, "show a", "0,4,7")

    def test_names(self):
        desk = Desk(12)
        for place, name in enumerate(("a", "z", "abcdefgh", "zzzzzzzz", "crowd", "show", "move", "m", "t", "kind")):
            self.check(desk, f"crowd {name} {place}", f"{place}")
            self.check(desk, f"show {name}", f"{place}")

    def test_crowd_puts_a_name_anew(self):
        desk = self.desk()
        self.check(desk, "move f a t1", "1,5,8")
        self.check(desk, "crowd a 3", "3")
        self.check(desk, "show a", "3")
        self.check(desk, "show f", "1,5,8")
        self.check(desk, "crowd a 3", "3")
        self.check(desk, "crowd a -", "-")
        self.check(desk, "show a", "-")

    def test_move(self):
        desk = self.desk()
        self.check(desk, "move e a t5", "0,5,9")
        self.check(desk, "show e", "0,5,9")
        self.check(desk, "show a", "0,4,7")
        self.check(desk, "move e a m7", "0,3,7")
        self.check(desk, "show e", "0,3,7")
        self.check(desk, "move f a ()", "0,4,7")
        self.check(desk, "move f a (t1 m4)", "3,8,11")
        self.check(desk, "move f a (m4 t1)", "1,5,10")
        self.check(desk, "move f a ~(t1 (t2 m3)*3 ~t4)*2", "0,4,7")
        self.check(desk, "move f a t1*1" + "0" * 30, "4,8,11")
        self.check(desk, "move f none m3", "-")

    def test_others(self):
        desk = self.desk()
        self.check(desk, "others e a", "1,2,3,5,6,8,9,10,11")
        self.check(desk, "show e", "1,2,3,5,6,8,9,10,11")
        self.check(desk, "others e none", "0,1,2,3,4,5,6,7,8,9,10,11")
        self.check(desk, "others e whole", "-")
        self.check(desk, "show e", "-")
        self.check(desk, "show whole", "0,1,2,3,4,5,6,7,8,9,10,11")

    def test_common(self):
        desk = self.desk()
        self.check(desk, "common e a b", "0,7")
        self.check(desk, "show e", "0,7")
        self.check(desk, "common e a c", "0,4")
        self.check(desk, "common e a none", "-")
        self.check(desk, "common e a a", "0,4,7")
        self.check(desk, "common e whole a", "0,4,7")

    def test_a_new_name_that_is_the_old_one(self):
        desk = self.desk()
        self.check(desk, "move a a t5", "0,5,9")
        self.check(desk, "show a", "0,5,9")
        self.check(desk, "move a a t5", "2,5,10")
        self.check(desk, "others b b", "1,2,4,5,6,8,9,10,11")
        self.check(desk, "show b", "1,2,4,5,6,8,9,10,11")
        self.check(desk, "others b b", "0,3,7")
        self.check(desk, "common c c d", "0,4")
        self.check(desk, "show c", "0,4")
        self.check(desk, "common d whole d", "0,1,4,6")
        self.check(desk, "common d d d", "0,1,4,6")
        self.check(desk, "show d", "0,1,4,6")


class RowsThatAsk(Asking):
    def test_show(self):
        desk = self.desk()
        self.check(desk, "show a", "0,4,7")
        self.check(desk, "show none", "-")
        self.check(desk, "show whole", "0,1,2,3,4,5,6,7,8,9,10,11")

    def test_least(self):
        desk = self.desk()
        self.check(desk, "least a", "0,3,7")
        self.check(desk, "least b", "0,3,7")
        self.check(desk, "least none", "-")
        self.check(desk, "show a", "0,4,7")

    def test_ways(self):
        desk = self.desk()
        self.check(desk, "ways a b", "m7")
        self.check(desk, "ways a a", "t0")
        self.check(desk, "ways a c", "-")
        self.check(desk, "ways c c", "t0 t4 t8 m0 m4 m8")
        self.check(desk, "ways a d", "-")
        desk.say("crowd one 1")
        desk.say("crowd two 2")
        self.check(desk, "ways one two", "t1 m3")
        self.check(desk, "ways two one", "t11 m3")

    def test_counts_and_sums(self):
        desk = self.desk()
        self.check(desk, "counts a", "0,0,1,1,1,0")
        self.check(desk, "counts none", "0,0,0,0,0,0")
        self.check(desk, "counts whole", "12,12,12,12,12,6")
        self.check(desk, "sums a", "1,0,1,0,2,0,0,2,1,0,0,2")
        self.check(desk, "sums none", "0,0,0,0,0,0,0,0,0,0,0,0")

    def test_lead(self):
        desk = self.desk()
        desk.say("crowd e 2,7,11")
        self.check(desk, "lead a b", "1 0>0,4>3,7>7")
        self.check(desk, "lead a e", "3 0>11,4>2,7>7")
        self.check(desk, "lead e a", "3 2>4,7>7,11>0")
        self.check(desk, "lead a a", "0 0>0,4>4,7>7")
        self.check(desk, "lead none none", "0 -")
        self.refused(desk, "lead a d", NoLeading)
        self.refused(desk, "lead d a", NoLeading)
        self.refused(desk, "lead none a", NoLeading)

    def test_lead_is_the_least_leading(self):
        # Of like costs the least square, of like squares the second ones that come first.
        desk = Desk(12)
        desk.say("crowd a 0,6")
        desk.say("crowd b 3,9")
        self.check(desk, "lead a b", "6 0>3,6>9")
        desk.say("crowd c 0,1")
        desk.say("crowd d 1,2")
        self.check(desk, "lead c d", "2 0>1,1>2")
        for row in ("crowd e 0,1,5,6,9", "crowd f 2,3,7,8,10"):
            desk.say(row)
        self.assertEqual(desk.say("lead e f"), lead_by_hand(12, (0, 1, 5, 6, 9), (2, 3, 7, 8, 10)))

    def test_saying(self):
        desk = Desk(12)
        self.check(desk, "saying t5", "t5")
        self.check(desk, "saying m11", "m11")
        self.check(desk, "saying ()", "t0")
        self.check(desk, "saying t5*0", "t0")
        self.check(desk, "saying (t5 m3)", "m10")
        self.check(desk, "saying (m3 t5)", "m8")
        self.check(desk, "saying ~t5*3", "t9")
        self.check(desk, "saying ~(t5*3)", "t9")
        self.check(desk, "saying (() (t1 t2) ~(m3 m4)*2)", "t1")
        self.check(desk, "saying t1*1" + "0" * 30, "t4")
        self.check(desk, "saying (" + " ".join(["t1"] * 59) + ")", "t11")

    def test_kind(self):
        desk = self.desk()
        self.check(desk, "kind b", "0 t0")
        self.check(desk, "kind a", "0 m7")
        self.check(desk, "kind c", "1 t0")
        self.check(desk, "kind b", "0 t0")
        self.check(desk, "kind a", "0 m7")
        self.check(desk, "move e a t2", "2,6,9")
        self.check(desk, "kind e", "0 m9")
        self.check(desk, "kind none", "2 t0")
        self.check(desk, "kind whole", "3 t0")
        self.check(desk, "kind d", "4 t0")
        self.check(desk, "kind c", "1 t0")

    def test_kind_goes_by_the_crowd_and_not_by_the_name(self):
        desk = self.desk()
        self.check(desk, "kind a", "0 t0")
        self.check(desk, "crowd a 0,4,8", "0,4,8")
        self.check(desk, "kind a", "1 t0")
        self.check(desk, "kind c", "1 t0")
        self.check(desk, "crowd f 1,5,8", "1,5,8")
        self.check(desk, "kind f", "0 t1")

    def test_only_kind_tells_the_keeper(self):
        desk = self.desk()
        for row in GOOD_ROWS[:-1]:
            desk.say(row)
        self.check(desk, "kind whole", "0 t0")
        self.check(desk, "kind d", "1 t0")

    def test_asking_changes_nothing(self):
        desk = self.desk()
        for _ in range(3):
            for row, text in (
                ("show a", "0,4,7"), ("least a", "0,3,7"), ("ways a b", "m7"), ("counts a", "0,0,1,1,1,0"),
                ("lead a b", "1 0>0,4>3,7>7"), ("saying (t5 m3)", "m10"), ("kind a", "0 t0"), ("kind b", "0 m7"),
            ):
                self.check(desk, row, text)


class NoRows(Asking):
    def test_other_first_parts(self):
        desk = self.desk()
        for row in (
            "", " ", "  ", "\n", "a", "a b", "0,4,7", "t5", "-", "Crowd a 0", "CROWD a 0", "crowds a 0", "crow a 0",
            "shows a", "count a", "sum a", "way a b", "leads a b", "kinds a", "other e a", "sayings t5", "say t5",
            "turn e a", "names", "help", "crowd\na\n0", "show\na", "show\ta", "crowd,a,0", "leastform a", "prices a b",
        ):
            self.refused(desk, row, NoRow)

    def test_too_few_or_too_many_parts(self):
        desk = self.desk()
        for row in (
            "crowd", "crowd a", "crowd a 0,4 7", "crowd a 0, 4", "crowd a - -", "move", "move e", "move e a", "others",
            "others e", "others e a b", "common", "common e", "common e a", "common e a b c", "show", "show a b",
            "least", "least a b", "ways", "ways a", "ways a b c", "counts", "counts a b", "sums", "sums a b", "lead",
            "lead a", "lead a b c", "saying", "kind", "kind a b", "show a t5", "kind a t0", "lead a b -",
        ):
            self.refused(desk, row, NoRow)

    def test_blanks(self):
        desk = self.desk()
        for row in GOOD_ROWS:
            self.refused(desk, " " + row, NoRow)
            self.refused(desk, row.replace(" ", "\n"), NoRow)
            if row.split()[0] != "saying":
                self.refused(desk, row.replace(" ", "  ", 1), NoRow)
                self.refused(desk, row.replace(" ", "\t"), NoRow)
            if row.split()[0] not in ("saying", "move"):
                self.refused(desk, row + " ", NoRow)
                self.refused(desk, row.replace(" ", "  "), NoRow)
        self.refused(desk, "crowd  0,4,7", NoRow)
        self.refused(desk, "crowd  a 0,4,7", NoRow)
        self.refused(desk, "crowd a  0,4,7", NoRow)
        self.refused(desk, "crowd a 0,4,7 ", NoRow)
        self.refused(desk, "move  a t2", NoRow)
        self.refused(desk, "move b  t2", NoRow)
        self.refused(desk, "move b  a t2", NoRow)
        self.refused(desk, "show ", NoRow)
        self.refused(desk, "show  ", NoRow)
        self.refused(desk, "show  a", NoRow)
        self.refused(desk, "lead a ", NoRow)
        self.refused(desk, "lead  a", NoRow)

    def test_what_is_no_name(self):
        for wrong in (
            "", "A", "aB", "a1", "1", "0", "a_b", "a-b", "-", "abcdefghi", "a" * 60, "a,b", "a\n", "\na", "\n", "a\t",
            "\u00e4", "\u03b1", "\uff41", "\u00df", "a\u0301", "\u00aa", "t5*2", "(a)", "~a", ".", "'a'",
        ):
            desk = self.desk()
            for row in (
                "crowd {} 0,4,7", "move {} a t5", "move e {} t5", "others {} a", "others e {}", "common {} a b",
                "common e {} b", "common e a {}", "show {}", "least {}", "ways {} a", "ways a {}", "counts {}",
                "sums {}", "lead {} a", "lead a {}", "kind {}",
            ):
                self.refused(desk, row.format(wrong), NoRow)

    def test_comes_ahead_of_all_other_refusals(self):
        desk = self.desk()
        for row in (
            "crowd A x", "crowd A 0,0", "crowd aB ", "crowd abcdefghi 99", "move A nobody x", "move e A x",
            "move A a x", "move A nobody t5", "move nobody A ", "others A nobody", "others nobody A",
            "common A nobody nobody", "common e nobody A", "common e A nobody", "ways nobody A", "ways A nobody",
            "lead nobody A", "lead A nobody", "lead nobody a b", "show nobody a", "kind nobody nobody",
            "common e nobody", "others e nobody a", "move e nobody", "crowd a 0 x", "crowd nobody",
        ):
            self.refused(desk, row, NoRow)


class UnknownNames(Asking):
    def test_a_name_that_stands_for_nothing(self):
        desk = self.desk()
        for row in (
            "move e nobody t5", "move nobody nobody t5", "others e nobody", "others nobody nobody",
            "common e nobody a", "common e a nobody", "common e nobody nobody", "common e e e", "show nobody",
            "least nobody", "ways nobody a", "ways a nobody", "ways nobody nobody", "counts nobody", "sums nobody",
            "lead nobody a", "lead a nobody", "lead nobody nobody", "kind nobody", "show e", "show aa", "show crowd",
        ):
            self.refused(desk, row, Unknown)

    def test_nothing_stands_at_first(self):
        for n in WHEELS:
            desk = Desk(n)
            for row in ("show a", "kind a", "lead a a", "move a a t0", "others a a", "common a a a", "ways a a"):
                self.refused(desk, row, Unknown)

    def test_comes_ahead_of_a_wrong_saying(self):
        desk = self.desk()
        for wrong in ("", " ", "x", "t12", "t5 ", "(t5", "t5*3*2", "t05", "a b c"):
            self.refused(desk, "move e nobody " + wrong, Unknown)
            self.refused(desk, "move a nobody " + wrong, Unknown)
            self.refused(desk, "move e a " + wrong, NoText)

    def test_comes_ahead_of_no_leading(self):
        desk = self.desk()
        self.refused(desk, "lead nobody a", Unknown)
        self.refused(desk, "lead d nobody", Unknown)
        self.refused(desk, "lead d a", NoLeading)


class NoTexts(Asking):
    def test_of_a_crowd(self):
        desk = self.desk()
        for wrong in (
            "", "x", "0,", ",0", "0,,4", "4,0", "0,0", "12", "0,12", "00", "04", "-1", "--", "-,0", "0,4,7,", "0;4;7",
            "0.0", "a", "t5", "0>4", "+0", "0\n", "\n0", "0,\n4", "\u0661", "9" * 60, "9" * 5000, "()",
        ):
            self.refused(desk, "crowd e " + wrong, NoText)
            self.refused(desk, "crowd a " + wrong, NoText)

    def test_of_a_saying(self):
        desk = self.desk()
        for wrong in (
            "", " ", "  ", "x", "t", "t12", "m12", "t05", " t5", "t5 ", "  t5", "t5  ", "t5 m3", "(t5  m3)", "( t5)",
            "(t5 )", "(t5", "t5)", "t5*", "t5*03", "t5*3*2", "t5*1" + "0" * 29 + "1", "~", "~~~~~~~~t5", "~ t5", "-",
            "(((((((((t5)))))))))", "(" + " ".join(["t1"] * 60) + ")", "t5\n", "\nt5", "(t5\nm3)", "a", "a t5", "0,4,7",
            "t" + "1" * 5000, "t1*" + "1" * 5000, "(" * 5000,
        ):
            self.refused(desk, "saying " + wrong, NoText)
            self.refused(desk, "move e a " + wrong, NoText)
            self.refused(desk, "move a a " + wrong, NoText)

    def test_an_empty_saying_is_a_part_and_no_saying_is_none(self):
        desk = self.desk()
        self.refused(desk, "saying", NoRow)
        self.refused(desk, "saying ", NoText)
        self.refused(desk, "saying  ", NoText)
        self.refused(desk, "move e a", NoRow)
        self.refused(desk, "move e a ", NoText)
        self.refused(desk, "move e a  ", NoText)
        self.refused(desk, "crowd e", NoRow)
        self.refused(desk, "crowd e ", NoText)
        self.refused(desk, "crowd e  ", NoRow)

    def test_of_another_wheel(self):
        small = Desk(3)
        self.refused(small, "crowd a 3", NoText)
        self.refused(small, "crowd a 0,4,7", NoText)
        self.refused(small, "saying t3", NoText)
        self.check(small, "crowd a 0,1,2", "0,1,2")
        self.check(small, "saying t2", "t2")
        wide = Desk(24)
        self.check(wide, "crowd a 0,12,23", "0,12,23")
        self.check(wide, "saying (m23 t1)", "m0")
        self.refused(wide, "crowd a 24", NoText)
        self.refused(wide, "saying m24", NoText)


class WhatIsRefusedChangesNothing(Asking):
    REFUSED = [
        ("crowd a", NoRow), ("crowd a 1 2", NoRow), ("crowd A 1", NoRow), ("crowd a x", NoText),
        ("crowd a 1,0", NoText), ("crowd e 1,12", NoText), ("move a nobody t1", Unknown), ("move a a t12", NoText),
        ("move a a ", NoText), ("move e a t1 ", NoText), ("move a b", NoRow), ("move a B t1", NoRow),
        ("others a nobody", Unknown), ("others e nobody", Unknown), ("others a b c", NoRow),
        ("common a b nobody", Unknown), ("common a nobody b", Unknown), ("common e a nobody", Unknown),
        ("common a b", NoRow), ("kind nobody", Unknown), ("kind a b", NoRow), ("kind A", NoRow),
        ("lead a d", NoLeading), ("show nobody", Unknown), ("saying t12", NoText), ("", NoRow),
    ]

    def test_names_stand_for_what_they_stood_for(self):
        desk = self.desk()
        for row, error in self.REFUSED:
            self.refused(desk, row, error)
            self.check(desk, "show a", "0,4,7")
            self.check(desk, "show b", "0,3,7")
            self.check(desk, "show d", "0,1,4,6")
            self.refused(desk, "show e", Unknown)
            self.refused(desk, "show nobody", Unknown)

    def test_kinds_keep_their_numbers(self):
        desk = self.desk()
        for row, error in self.REFUSED:
            self.refused(desk, row, error)
        self.check(desk, "kind c", "0 t0")
        for row, error in self.REFUSED:
            self.refused(desk, row, error)
        self.check(desk, "kind b", "1 t0")
        self.check(desk, "kind a", "1 m7")
        self.check(desk, "kind d", "2 t0")


class TwoDesks(Asking):
    def test_of_one_wheel_do_not_mix(self):
        one = Desk(12)
        other = Desk(12)
        self.check(one, "crowd a 0,4,7", "0,4,7")
        self.refused(other, "show a", Unknown)
        self.check(other, "crowd a 1", "1")
        self.check(other, "crowd b 2", "2")
        self.check(one, "show a", "0,4,7")
        self.refused(one, "show b", Unknown)
        self.check(one, "kind a", "0 t0")
        self.check(other, "kind b", "0 t0")
        self.check(other, "kind a", "0 t11")
        self.check(one, "crowd c 1", "1")
        self.check(one, "kind c", "1 t0")

    def test_of_two_wheels_do_not_mix(self):
        one = Desk(8)
        other = Desk(12)
        for desk in (one, other):
            self.check(desk, "crowd a 0,4", "0,4")
        self.check(one, "ways a a", "t0 t4 m0 m4")
        self.check(other, "ways a a", "t0 m4")
        self.check(one, "move b a t5", "1,5")
        self.check(other, "move b a t5", "5,9")
        self.check(one, "counts a", "0,0,0,1")
        self.check(other, "counts a", "0,0,0,1,0,0")


class AgainstPatterns(Asking):
    """Long talks of mixed rows, right and wrong ones, with the Desk and with one that goes by patterns."""

    def part(self, n, numbers):
        number = numbers.pop()
        kinds = [
            "abcde"[number % 5],
            "abcde"[number % 5],
            "abcde"[number % 5],
            by_commas(crowd_from_bits(n, number & 1023)),
            ["t1", "m2", "~t1", "()", "(t1", "m0)", "(m1 t2)", "t1*3", f"t{n}", "~(m2 t1*2)*5"][number % 10],
            ["", "-", "A", "nobody", "0", "t", "(", ")", "abcdefghi", "a\n", "4,2", "\n"][number % 12],
        ]
        return kinds[numbers.pop() % 6]

    def row(self, n, numbers):
        word = ROWS[numbers.pop() % 12][0] if numbers.pop() % 30 else "word"
        # Mostly as many parts as the row has, each at a place where it belongs.
        if numbers.pop() % 4 == 0:
            return " ".join([word] + [self.part(n, numbers) for _ in range(numbers.pop() % 5)])
        names = ["abcde"[numbers.pop() % 5] for _ in range(3)]
        crowd = by_commas(crowd_from_bits(n, numbers.pop() & numbers.pop()))
        saying = ["t1", "m2", "(t1 m0)*3", "~(m1 t2 ())", "m0*7", "(t2 ~m1)*12"][numbers.pop() % 6]
        behind = {
            "crowd": [names[0], crowd], "move": names[:2] + [saying], "others": names[:2], "common": names,
            "ways": names[:2], "lead": names[:2], "saying": [saying], "word": names[:1],
        }
        return " ".join([word] + behind.get(word, names[:1]))

    def test_mixed_talks(self):
        seen = {}
        for n in WHEELS:
            numbers = well_mixed_numbers(9000, n)
            desk = Desk(n)
            by_hand = ByHand(n)
            for _ in range(300):
                row = self.row(n, numbers)
                if row.startswith("lead ") and len(row.split(" ")) == 3:
                    # All leadings of many tones are too many to look at.
                    sizes = [len(by_hand.crowds.get(name, ())) for name in row.split(" ")[1:]]
                    if max(sizes) > 6 and sizes[0] == sizes[1]:
                        continue
                told = answered(desk, row)
                self.assertEqual(told, by_hand.say(row), (n, row))
                key = (row.split(" ")[0], told if isinstance(told, type) else "answered")
                seen[key] = seen.get(key, 0) + 1
        # Every sort of row was answered, and refused in every way that it can be.
        for word, pattern in ROWS:
            self.assertGreater(seen[(word, "answered")], 30, word)
            if word != "saying":
                self.assertGreater(seen[(word, NoRow)], 5, word)
            if word not in ("saying", "crowd"):
                self.assertGreater(seen[(word, Unknown)], 5, word)
        for word in ("crowd", "move", "saying"):
            self.assertGreater(seen[(word, NoText)], 5, word)
        self.assertGreater(seen[("lead", NoLeading)], 5)


class NothingElseRefused(Asking):
    def test_wheels_somewhat_beyond_the_bounds(self):
        for n in [1, 2, 25, 30]:
            desk = Desk(n)
            self.check(desk, f"crowd a {n - 1}", f"{n - 1}")
            self.check(desk, "move b a t0*5", f"{n - 1}")
            self.check(desk, "lead a b", f"0 {n - 1}>{n - 1}")
            self.check(desk, "kind a", "0 t0")


if __name__ == "__main__":
    unittest.main()
