import itertools
import unittest

from tests.samples import WHEELS
from tests.sayings_by_hand import (
    MOST_TIMES, all_within, can_be_written, chosen_times, in_rows, layers, mirror, mixed_sayings, read_by_hand, row,
    text_by_hand, times, turn, undo, undone, written_up_to,
)
from tonemirror.errors import NoText, ToneError
from tonemirror.language import read_saying, saying_text
from tonemirror.sayings import does
from tonemirror.wheel import changes

# A saying and its text, each sort and sorts within one another.
PAIRS = [
    (turn(5), "t5"),
    (mirror(0), "m0"),
    (turn(11), "t11"),
    (row(), "()"),
    (row(turn(5)), "(t5)"),
    (row(turn(5), mirror(3)), "(t5 m3)"),
    (row(row(), row()), "(() ())"),
    (row(row(turn(1)), mirror(10), row(turn(0), turn(0))), "((t1) m10 (t0 t0))"),
    (times(turn(5), 3), "t5*3"),
    (times(turn(5), 0), "t5*0"),
    (times(turn(5), 1), "t5*1"),
    (times(turn(5), 10), "t5*10"),
    (times(mirror(2), MOST_TIMES), "m2*1" + "0" * 30),
    (times(mirror(2), MOST_TIMES - 1), "m2*" + "9" * 30),
    (times(row(), 7), "()*7"),
    (times(row(turn(1), mirror(2)), 7), "(t1 m2)*7"),
    (undo(turn(5)), "~t5"),
    (undo(undo(mirror(5))), "~~m5"),
    (undo(row()), "~()"),
    (undo(row(turn(1), mirror(2))), "~(t1 m2)"),
    (times(undo(turn(5)), 3), "~t5*3"),
    (undo(row(times(turn(5), 3))), "~(t5*3)"),
    (times(row(times(turn(5), 3)), 2), "(t5*3)*2"),
    (times(undo(undo(turn(5))), 3), "~~t5*3"),
    (times(undo(row(times(turn(5), 3))), 2), "~(t5*3)*2"),
    (row(times(turn(5), 3), undo(mirror(1)), times(undo(row()), 2)), "(t5*3 ~m1 ~()*2)"),
    (undo(row(undo(row(undo(turn(1)))))), "~(~(~t1))"),
]

# What can't be written, at the head.
UNWRITABLE = [
    undo(times(turn(5), 3)),
    undo(times(row(turn(5)), 3)),
    undo(times(undo(turn(5)), 0)),
    times(times(turn(5), 3), 2),
    times(times(turn(5), 1), 1),
    times(times(row(), 0), 0),
    times(times(undo(mirror(1)), 3), MOST_TIMES),
]


def sayings_around(saying):
    """The saying within each sort of saying, once and several times."""
    return [
        row(saying),
        row(turn(1), saying),
        row(saying, turn(1)),
        row(turn(1), row(mirror(2), saying, turn(1))),
        undo(saying),
        undo(row(saying)),
        times(saying, 2),
        times(row(saying), 2),
        times(undo(row(mirror(1), saying)), 2),
        undo(undo(saying)),
        undo(undo(row(undo(row(saying))))),
        in_rows(saying, 4),
    ]


class Refusing(unittest.TestCase):
    def refused_writing(self, saying):
        with self.assertRaises(ToneError, msg=saying) as caught:
            saying_text(saying)
        self.assertIs(type(caught.exception), NoText)

    def refused_reading(self, n, text):
        with self.assertRaises(ToneError, msg=(n, text)) as caught:
            read_saying(n, text)
        self.assertIs(type(caught.exception), NoText)


class Written(Refusing):
    def test_each_sort(self):
        for saying, text in PAIRS:
            told = saying_text(saying)
            self.assertIs(type(told), str)
            self.assertEqual(told, text)

    def test_all_changes(self):
        for n in WHEELS:
            for change in changes(n):
                self.assertEqual(saying_text(("change", change)), ("t%d" if change[0] == "turn" else "m%d") % change[1])

    def test_all_chosen_numbers(self):
        for n in WHEELS:
            for many in chosen_times(n):
                self.assertEqual(saying_text(times(turn(1), many)), "t1*%d" % many)

    def test_mixed_sayings(self):
        for n in WHEELS:
            for saying in mixed_sayings(n, 40, True):
                self.assertEqual(saying_text(saying), text_by_hand(saying))

    def test_just_those_are_refused_that_have_such_a_one_within(self):
        refused = 0
        for n in WHEELS:
            for saying in mixed_sayings(n):
                if can_be_written(saying):
                    self.assertEqual(saying_text(saying), text_by_hand(saying))
                else:
                    self.refused_writing(saying)
                    refused += 1
        self.assertGreater(refused, 100)

    def test_straight_of_a_times_at_the_head(self):
        for saying in UNWRITABLE:
            self.refused_writing(saying)

    def test_straight_of_a_times_within(self):
        for saying in UNWRITABLE:
            for around in sayings_around(saying):
                self.refused_writing(around)
                self.refused_writing(row(around, around))

    def test_a_row_between_helps(self):
        self.assertEqual(saying_text(undo(row(times(turn(5), 3)))), "~(t5*3)")
        self.assertEqual(saying_text(times(row(times(turn(5), 3)), 2)), "(t5*3)*2")
        self.assertEqual(saying_text(undo(undo(row(times(turn(5), 3))))), "~~(t5*3)")
        self.refused_writing(undo(undo(times(turn(5), 3))))
        self.refused_writing(times(undo(times(turn(5), 3)), 2))

    def test_somewhat_beyond_the_bounds_nothing_else_is_refused(self):
        self.assertEqual(saying_text(undone(turn(1), 12)), "~" * 12 + "t1")
        self.assertEqual(saying_text(in_rows(turn(1), 12)), "(" * 12 + "t1" + ")" * 12)
        self.assertEqual(saying_text(row(*[turn(1)] * 75)), "(" + " ".join(["t1"] * 75) + ")")
        self.assertEqual(saying_text(times(turn(1), MOST_TIMES + 1)), "t1*1" + "0" * 29 + "1")
        self.assertEqual(saying_text(turn(24)), "t24")


class ReadBack(Refusing):
    def check(self, n, text, saying):
        told = read_saying(n, text)
        self.assertEqual(told, saying, (n, text))
        # Truths and lists would be the same to ==, or not, by chance: of what they are made counts too.
        for one in all_within(told):
            self.assertIs(type(one), tuple)
            if one[0] == "row":
                self.assertIs(type(one[1]), tuple)
            if one[0] == "times":
                self.assertIs(type(one[2]), int)
            if one[0] == "change":
                self.assertIs(type(one[1]), tuple)
                self.assertIs(type(one[1][1]), int)

    def test_each_sort(self):
        for saying, text in PAIRS:
            self.check(12, text, saying)
            self.check(24, text, saying)

    def test_a_number_belongs_to_the_undos_ahead_of_it_too(self):
        self.assertEqual(read_saying(12, "~t5*3"), ("times", ("undo", ("change", ("turn", 5))), 3))
        self.assertEqual(
            read_saying(12, "~(t5*3)"), ("undo", ("row", (("times", ("change", ("turn", 5)), 3),)))
        )

    def test_all_changes_and_chosen_numbers(self):
        for n in WHEELS:
            for change in changes(n):
                for many in chosen_times(n):
                    saying = times(("change", change), many)
                    self.check(n, text_by_hand(saying), saying)
                self.check(n, text_by_hand(("change", change)), ("change", change))

    def test_mixed_sayings(self):
        for n in WHEELS:
            for saying in mixed_sayings(n, 40, True):
                self.check(n, text_by_hand(saying), saying)
                self.check(n, saying_text(saying), saying)
                self.assertEqual(saying_text(read_saying(n, text_by_hand(saying))), text_by_hand(saying))

    def test_what_is_read_does_what_was_written(self):
        for n in WHEELS:
            for saying in mixed_sayings(n, 20, True):
                self.assertEqual(does(n, read_saying(n, saying_text(saying))), does(n, saying))


class ReadingRefused(Refusing):
    def test_empty_and_blank_texts(self):
        for text in ("", " ", "  ", "\n", "-"):
            self.refused_reading(12, text)

    def test_blanks(self):
        for text in (
            " t5", "t5 ", " t5 ", "t5 m3", "( )", "(  )", "( t5)", "(t5 )", "(t5  m3)", "(t5   m3)", "(t5 m3) ",
            " (t5 m3)", "(t5 m3)  ", "t 5", "~ t5", "t5 *3", "t5* 3", "t5*3 ", "(t5 *3)", "(t5* 3)", "(t5*3  m1)",
            "(() )", "( ())", "()()", "(t5)(m3)", "(t5m3)", "(t5~m3)", "(t5(m3))", "(()t5)", "() ()",
        ):
            self.refused_reading(12, text)

    def test_brackets(self):
        for text in (
            "(", ")", "((", "))", ")(", "(t5", "t5)", "((t5)", "(t5))", "((t5) m3", "(t5 m3", "(t5 m3))", "(t5*3",
            "~(", "~(t5", "~)", "(~)", "(~ t5)", "(t5 ~)", "(t5 ())(", "[t5]", "{t5}", "(t5,m3)", "(t5;m3)", "(*3)",
        ):
            self.refused_reading(12, text)

    def test_changes_that_are_none(self):
        for text in (
            "t", "m", "5", "x5", "T5", "M3", "tt5", "t-5", "t+5", "t5.0", "5t", "t5t5", "t5m3", "t00", "t05", "m00",
            "m011", "turn", "t5a", "a", "~", "~~", "~t", "~5", "t~5", "t5~", "t(5)", "tm",
        ):
            self.refused_reading(12, text)
            self.refused_reading(12, "(" + text + ")")
            self.refused_reading(12, "(t1 " + text + ")")
            self.refused_reading(12, "~" + text)
            self.refused_reading(12, text + "*3")

    def test_tones_beyond_the_wheel(self):
        for n in WHEELS:
            for letter in "tm":
                for number in (n, n + 1, 10 * n, 100, 10 ** 30):
                    text = f"{letter}{number}"
                    for around in (text, f"({text})", f"(t0 {text} t0)", f"~{text}", f"{text}*2", f"(~({text} t0))"):
                        self.refused_reading(n, around)
                self.assertEqual(read_saying(n, f"~{letter}{n - 1}")[0], "undo")

    def test_a_saying_of_another_wheel(self):
        self.assertEqual(read_saying(12, "(t11)"), row(turn(11)))
        self.refused_reading(11, "(t11)")
        self.assertEqual(read_saying(12, "(t11)"), row(turn(11)))

    def test_numbers_of_times(self):
        for number in (
            "", "00", "01", "03", "007", "0" * 31, "-1", "+1", "1.0", "1e3", "0x1", "1_0", "a", "*", "t1", "()", "3a",
            "3t1", "3(", "3)", "3~", "~3", "(3)", "1,0", "\n3", "3\n", "3\t",
        ):
            for ahead in ("t5", "()", "~m1", "(t5 m3)"):
                self.refused_reading(12, ahead + "*" + number)
                self.refused_reading(12, "(" + ahead + "*" + number + ")")

    def test_numbers_up_to_the_greatest(self):
        for many in (MOST_TIMES - 1, MOST_TIMES):
            self.assertEqual(read_saying(12, f"t1*{many}"), times(turn(1), many))
            self.assertEqual(read_saying(12, f"(m1 ()*{many})"), row(mirror(1), times(row(), many)))
        for many in (MOST_TIMES + 1, 2 * MOST_TIMES, 10 ** 31 - 1, 10 ** 31, 10 ** 60 - 1):
            self.refused_reading(12, f"t1*{many}")
            self.refused_reading(12, f"(m1 ()*{many})")

    def test_two_times_one_behind_the_other(self):
        for text in ("t5*3*2", "()*1*1", "~t5*3*2", "(t5 m3)*2*2", "(t5*3*2)", "(m1 t5*3*2 m1)", "~(t5*3*2)", "t5**2"):
            self.refused_reading(12, text)
        self.assertEqual(read_saying(12, "(t5*3)*2"), times(row(times(turn(5), 3)), 2))

    def test_figures_letters_and_signs_of_other_scripts(self):
        for figure in ("\u0661", "\u00b9", "\uff11", "\u0967", "\U0001d7cf", "\u2081", "\u2460"):
            self.refused_reading(12, "t" + figure)
            self.refused_reading(12, "t1" + figure)
            self.refused_reading(12, "t1*" + figure)
            self.refused_reading(12, "t1*1" + figure)
        for text in ("\uff541", "\uff08t1\uff09", "(t1\u00a0t2)", "\u223ct1", "t1\u00d72", "t1\uff0a2", "t1\u2009"):
            self.refused_reading(12, text)

    def test_line_feeds_tabs_and_ends(self):
        for text in (
            "t5\n", "\nt5", "(t5\nm3)", "(t5\n m3)", "(t5 m3)\n", "t5*3\n", "~\nt5", "(t5\tm3)", "t5\t", "t5\r",
        ):
            self.refused_reading(12, text)


class Bounds(Refusing):
    def taken(self, saying):
        text = text_by_hand(saying)
        self.assertEqual(read_saying(12, text), saying)
        self.assertLessEqual(layers(saying), 8)
        self.assertLessEqual(len(all_within(saying)), 60)

    def beyond(self, saying):
        self.refused_reading(12, text_by_hand(saying))
        self.assertTrue(layers(saying) > 8 or len(all_within(saying)) > 60)

    def test_a_ninth_saying_within(self):
        for innermost in (turn(1), mirror(11), row()):
            self.taken(undone(innermost, 7))
            self.beyond(undone(innermost, 8))
            self.taken(in_rows(innermost, 7))
            self.beyond(in_rows(innermost, 8))
            self.taken(times(undone(innermost, 6), 2))
            self.beyond(times(undone(innermost, 7), 2))
            self.taken(times(in_rows(innermost, 6), 2))
            self.beyond(times(in_rows(innermost, 7), 2))
            self.taken(in_rows(times(innermost, 2), 6))
            self.beyond(in_rows(times(innermost, 2), 7))
            self.taken(undone(row(times(innermost, 2)), 5))
            self.beyond(undone(row(times(innermost, 2)), 6))

    def test_times_in_every_layer(self):
        eight = times(row(times(row(times(row(times(turn(1), 2)), 3)), 4)), 5)
        self.assertEqual(layers(eight), 8)
        self.taken(eight)
        self.beyond(row(eight))
        self.beyond(undo(row(eight)))
        self.beyond(times(row(times(row(times(row(times(undo(turn(1)), 2)), 3)), 4)), 5))
        self.beyond(times(row(times(row(times(row(times(row(turn(1)), 2)), 3)), 4)), 5))

    def test_a_deep_saying_behind_or_ahead_of_others(self):
        for deep in (undone(turn(1), 6), in_rows(turn(1), 6), times(undone(turn(1), 5), 3)):
            self.taken(row(deep, turn(1)))
            self.taken(row(turn(1), row(), deep))
            self.beyond(row(undo(row(deep)), turn(1)))
            self.beyond(row(turn(1), row(deep)))
            self.beyond(row(turn(1), row(turn(1), deep), turn(1)))

    def test_a_sixty_first_one(self):
        for leaf in (turn(1), mirror(11), row()):
            self.taken(row(*[leaf] * 59))
            self.beyond(row(*[leaf] * 60))
            self.taken(undo(row(*[leaf] * 58)))
            self.beyond(undo(row(*[leaf] * 59)))
            self.taken(times(row(*[leaf] * 58), 3))
            self.beyond(times(row(*[leaf] * 59), 3))
            self.taken(row(*[undo(leaf)] * 29 + [leaf]))
            self.beyond(row(*[undo(leaf)] * 30))
            self.taken(row(*[times(leaf, 2)] * 29 + [leaf]))
            self.beyond(row(*[times(leaf, 2)] * 30))
            self.taken(row(row(*[leaf] * 28), row(*[leaf] * 29)))
            self.beyond(row(row(*[leaf] * 29), row(*[leaf] * 29)))
            self.taken(row(*[row(leaf)] * 29 + [leaf]))
            self.beyond(row(*[row(leaf)] * 30))

    def test_both_bounds_at_once(self):
        self.taken(undone(row(*[turn(1)] * 53), 6))
        self.beyond(undone(row(*[turn(1)] * 54), 6))
        self.beyond(undone(row(*[turn(1)] * 52), 7))

    def test_very_long_texts(self):
        for many in (100, 1333, 4000, 20000, 100000):
            for text in (
                "(" * many, ")" * many, "~" * many, "~" * many + "t1", "(" * many + ")" * many, "()" * many,
                "t1*" + "1" * many, "t1*" + "0" * many, "t" + "1" * many, "t" + "0" * many, "*3" * many,
                "t1" + "*3" * many, "(" + "t1 " * many, "(" + "t1 " * many + "t1)", "(" + "()" * many + ")",
                "(~" * many + "t1" + ")" * many, " " * many, "t1" + " " * many, "(t1" + " " * many + "t1)",
                "(" * 7 + "t1 " * many + "t1" + ")" * 7, "(" + "t1*2 " * many + "t1)", "t1 " * many,
            ):
                self.refused_reading(12, text)


class JustWhatIsWritten(Refusing):
    def test_all_short_texts_of_some_signs(self):
        some = list(zip(changes(3), ("t0", "t1", "t2", "m0", "m1", "m2")))
        for signs, length in (("t0(~*) ", 6), ("tm012()~* 3", 4), ("t1*0", 7), ("t0() ", 7)):
            written = written_up_to(length, range(10 ** (length - 3)), some)
            written = {text: written[text] for text in written if all(sign in signs for sign in text)}
            seen = 0
            for size in range(length + 1):
                for chosen in itertools.product(signs, repeat=size):
                    text = "".join(chosen)
                    if text in written:
                        self.assertEqual(read_saying(3, text), written[text])
                        self.assertEqual(saying_text(written[text]), text)
                        seen += 1
                    else:
                        with self.assertRaises(NoText, msg=text):
                            read_saying(3, text)
            self.assertEqual(seen, len(written))

    def test_texts_near_to_written_ones(self):
        for n in (3, 10, 12, 24):
            texts = [text_by_hand(saying) for saying in mixed_sayings(n, 40, True)]
            texts = [text for text in texts if len(text) <= 100] + [text for saying, text in PAIRS]
            read = refused = 0
            for text in texts:
                for place in range(len(text) + 1):
                    near = [text[:place] + sign + text[place:] for sign in "t1(~*) m0"]
                    near += [text[:place] + sign + text[place + 1:] for sign in "t1(~*) m09"]
                    near.append(text[:place] + text[place + 1:])
                    near.append(text[:place] + text[place:place + 1] * 2 + text[place + 1:])
                    near.append(text[:place] + text[place:place + 2][::-1] + text[place + 2:])
                    for asked in near:
                        saying = read_by_hand(n, asked)
                        if saying is None:
                            refused += 1
                            self.refused_reading(n, asked)
                        else:
                            read += 1
                            self.assertEqual(read_saying(n, asked), saying)
                            self.assertEqual(saying_text(saying), asked)
            self.assertGreater(read, 1000)
            self.assertGreater(refused, 10000)


class NothingElseRefused(unittest.TestCase):
    def test_wheels_somewhat_beyond_the_bounds(self):
        for n in [1, 2, 25, 30]:
            saying = times(undo(row(turn(n - 1), mirror(0))), 3)
            self.assertEqual(read_saying(n, saying_text(saying)), saying)


if __name__ == "__main__":
    unittest.main()
