import itertools
import unittest

from tests.samples import SMALL_WHEELS, WHEELS, all_crowds, all_rows, some_crowds, some_leadings, some_rows
from tonemirror.errors import NoText, ToneError
from tonemirror.texts import change_text, crowd_text, leading_text, read_change, read_crowd, read_row
from tonemirror.wheel import changes

FIGURES = "0123456789"
# Figures of other scripts, raised ones and full-width ones: some of them int would take for numbers.
FOREIGN_ONES = ["\u0661", "\u00b9", "\uff11", "\u0967", "\U0001d7cf", "\u2081", "\u2460"]


def number_by_hand(number):
    """Of whole numbers below a hundred."""
    tens = number // 10
    return (FIGURES[tens] if tens else "") + FIGURES[number - 10 * tens]


def tones_by_hand(tones):
    found = ""
    for tone in tones:
        found += ("," if found else "") + number_by_hand(tone)
    return found or "-"


def texts_up_to(signs, length):
    for size in range(length + 1):
        for chosen in itertools.product(signs, repeat=size):
            yield "".join(chosen)


def crowds(n):
    return all_crowds(n) if n in SMALL_WHEELS else some_crowds(n)


def rows(n):
    return all_rows(n) if n <= 4 else some_rows(n)


class Written(unittest.TestCase):
    def test_crowds(self):
        self.assertEqual(crowd_text(()), "-")
        self.assertEqual(crowd_text((0,)), "0")
        self.assertEqual(crowd_text((23,)), "23")
        self.assertEqual(crowd_text((0, 4, 7)), "0,4,7")
        self.assertEqual(crowd_text((0, 9, 10, 11)), "0,9,10,11")
        for n in WHEELS:
            for crowd in crowds(n):
                told = crowd_text(crowd)
                self.assertIs(type(told), str)
                self.assertEqual(told, tones_by_hand(crowd))

    def test_rows(self):
        self.assertEqual(crowd_text((2, 0, 1)), "2,0,1")
        self.assertEqual(crowd_text((10, 9, 11, 0, 1, 2, 3, 4, 5, 6, 7, 8)), "10,9,11,0,1,2,3,4,5,6,7,8")
        for n in WHEELS:
            for row in rows(n):
                self.assertEqual(crowd_text(row), tones_by_hand(row))

    def test_changes(self):
        self.assertEqual(change_text(("turn", 0)), "t0")
        self.assertEqual(change_text(("turn", 5)), "t5")
        self.assertEqual(change_text(("mirror", 0)), "m0")
        self.assertEqual(change_text(("mirror", 11)), "m11")
        for n in WHEELS:
            written = [change_text(change) for change in changes(n)]
            self.assertEqual(
                written, [letter + number_by_hand(k) for letter in "tm" for k in range(n)]
            )

    def test_leadings(self):
        self.assertEqual(leading_text([]), "-")
        self.assertEqual(leading_text([(0, 0)]), "0>0")
        self.assertEqual(leading_text([(0, 11), (4, 2), (7, 7)]), "0>11,4>2,7>7")
        self.assertEqual(leading_text([(9, 10), (10, 9), (23, 0)]), "9>10,10>9,23>0")
        for n in WHEELS:
            for leading in some_leadings(n):
                kept = list(leading)
                told = leading_text(leading)
                self.assertIs(type(told), str)
                pairs = [number_by_hand(a) + ">" + number_by_hand(b) for a, b in leading]
                self.assertEqual(told.split(","), pairs or ["-"])
                self.assertEqual(leading, kept)

    def test_a_changed_leading_is_written_as_it_is_then(self):
        leading = [(0, 4)]
        self.assertEqual(leading_text(leading), "0>4")
        leading.append((4, 0))
        self.assertEqual(leading_text(leading), "0>4,4>0")
        leading.clear()
        self.assertEqual(leading_text(leading), "-")
        self.assertEqual(leading_text([(0, 4)]), "0>4")


class ReadBack(unittest.TestCase):
    def test_crowds(self):
        self.assertEqual(read_crowd(12, "-"), ())
        self.assertEqual(read_crowd(12, "0,4,7"), (0, 4, 7))
        self.assertEqual(read_crowd(24, "9,10,23"), (9, 10, 23))
        for n in WHEELS:
            for crowd in crowds(n):
                told = read_crowd(n, tones_by_hand(crowd))
                self.assertIs(type(told), tuple)
                self.assertEqual(told, crowd)
                self.assertTrue(all(type(tone) is int for tone in told))
                self.assertEqual(read_crowd(n, crowd_text(crowd)), crowd)

    def test_rows(self):
        self.assertEqual(read_row(3, "2,0,1"), (2, 0, 1))
        for n in WHEELS:
            for row in rows(n):
                told = read_row(n, tones_by_hand(row))
                self.assertIs(type(told), tuple)
                self.assertEqual(told, row)
                self.assertTrue(all(type(tone) is int for tone in told))
                self.assertEqual(read_row(n, crowd_text(row)), row)

    def test_changes(self):
        self.assertEqual(read_change(12, "t0"), ("turn", 0))
        self.assertEqual(read_change(12, "m11"), ("mirror", 11))
        for n in WHEELS:
            for change in changes(n):
                told = read_change(n, change_text(change))
                self.assertIs(type(told), tuple)
                self.assertEqual(told, change)
                self.assertIs(type(told[1]), int)


class Refused(unittest.TestCase):
    def refused(self, asked, n, text):
        with self.assertRaises(ToneError, msg=(asked.__name__, n, text)) as caught:
            asked(n, text)
        self.assertIs(type(caught.exception), NoText)

    def test_crowds_and_rows_that_are_no_texts_of_tones(self):
        for asked in (read_crowd, read_row):
            for n, whole in [(3, "0,1,2"), (4, "0,1,2,3"), (12, crowd_text(tuple(range(12))))]:
                rest = whole[1:]
                wrong = ["", " ", ",", ",,", "--", "-,", ",-", "-0", "a", "0;1;2", "0.0", "0 1 2", "t0", "0>0"]
                wrong += [" " + whole, whole + " ", whole.replace(",", ", "), whole.replace(",", " ,")]
                wrong += ["," + whole, whole + ",", whole.replace(",", ",,"), "-" + whole, "-," + whole]
                wrong += ["+" + whole, "00" + rest, "-0" + rest, "+0" + rest, "0_0" + rest, "0x0" + rest]
                wrong += ["\n" + whole, whole + "\n", whole.replace(",", "\n"), "\t" + whole, whole + "\r"]
                wrong += ["(" + whole + ")", "[" + whole + "]", whole + ",-", "0.0" + rest, "0e0" + rest]
                for text in wrong:
                    self.refused(asked, n, text)

    def test_noughts_ahead(self):
        for asked in (read_crowd, read_row):
            self.refused(asked, 3, "0,01,2")
            self.refused(asked, 3, "0,1,02")
            self.refused(asked, 3, "00,1,2")
        self.refused(read_crowd, 12, "00")
        self.refused(read_crowd, 12, "010")
        self.refused(read_change, 12, "t00")
        self.refused(read_change, 12, "m01")
        self.refused(read_change, 12, "t011")

    def test_tones_beyond_the_wheel(self):
        for n in WHEELS:
            self.refused(read_crowd, n, f"{n}")
            self.refused(read_crowd, n, f"0,{n}")
            self.refused(read_crowd, n, f"-1,{n - 1}")
            self.refused(read_crowd, n, "9" * 60)
            self.refused(read_row, n, crowd_text(tuple(range(1, n + 1))))
            self.refused(read_row, n, crowd_text(tuple(range(n + 1))))
            for letter in "tm":
                self.refused(read_change, n, f"{letter}{n}")
                self.refused(read_change, n, f"{letter}{n + 1}")
                self.refused(read_change, n, f"{letter}-1")
                self.refused(read_change, n, letter + "9" * 60)

    def test_very_long_numbers(self):
        for figure in "0179":
            # Longer than what int takes at all.
            long = figure * 5000
            self.refused(read_crowd, 12, long)
            self.refused(read_row, 12, long)
            self.refused(read_change, 12, "t" + long)

    def test_tones_twice_or_not_rising(self):
        for n in WHEELS:
            self.refused(read_crowd, n, "0,0")
            self.refused(read_crowd, n, "1,0")
            self.refused(read_crowd, n, "0,2,1")
            self.refused(read_crowd, n, f"0,{n - 1},{n - 1}")
        # As texts they would be rising, as numbers they are not; and the other way round.
        self.refused(read_crowd, 12, "10,2")
        self.assertEqual(read_crowd(12, "2,10"), (2, 10))

    def test_rows_that_are_not_of_all_tones(self):
        for n in WHEELS:
            whole = tuple(range(n))
            self.refused(read_row, n, "-")
            self.refused(read_row, n, "0")
            self.refused(read_row, n, crowd_text(whole[1:]))
            self.refused(read_row, n, crowd_text(whole[:-1]))
            self.refused(read_row, n, crowd_text(whole + (0,)))
            self.refused(read_row, n, crowd_text((1,) + whole[1:]))
            self.refused(read_row, n, crowd_text(whole[:-1] + (n,)))
            self.assertEqual(read_row(n, crowd_text(whole[::-1])), whole[::-1])

    def test_changes(self):
        wrong = ["", " ", "t", "m", "0", "5", "-", "tm", "mt", "tt0", "tm0", "T0", "M0", "u0", "s5", "a1", "5t", "0m"]
        wrong += [" t0", "t0 ", "t 0", "t+0", "t-0", "m-1", "+t0", "-t0", "~t0", "(t0)", "t0*1", "t0 t1", "t0,", ",t0"]
        wrong += ["t0,1", "t,", "m1.0", "turn0", "turn 0", "mirror5", "t0\n", "\nt0", "t\n0", "t0\n\n", "t0\t", "t5t"]
        wrong += ["t1_0", "t0x1", "t1e0", "t0\r", "t0\x00"]
        for n in (3, 7, 12, 24):
            for text in wrong:
                self.refused(read_change, n, text)

    def test_figures_that_are_no_ascii_ones(self):
        for one in FOREIGN_ONES:
            self.refused(read_crowd, 12, one)
            self.refused(read_crowd, 12, "0," + one)
            self.refused(read_crowd, 12, "1" + one)
            self.refused(read_row, 3, "0," + one + ",2")
            self.refused(read_change, 12, "t" + one)
            self.refused(read_change, 12, "m1" + one)
        self.refused(read_crowd, 12, "0\uff0c1")
        self.refused(read_crowd, 12, "\u2212")
        self.refused(read_change, 12, "\uff541")

    def test_line_feeds_behind(self):
        for n in WHEELS:
            self.refused(read_crowd, n, "-\n")
            self.refused(read_crowd, n, "0\n")
            self.refused(read_crowd, n, "0,1,2\n")
            self.refused(read_row, n, crowd_text(tuple(range(n))) + "\n")
            self.refused(read_change, n, "t0\n")
            self.refused(read_change, n, "m1\n")

    def test_a_crowd_of_another_wheel(self):
        self.assertEqual(read_crowd(12, "0,11"), (0, 11))
        self.refused(read_crowd, 11, "0,11")
        self.assertEqual(read_change(12, "m11"), ("mirror", 11))
        self.refused(read_change, 11, "m11")
        self.assertEqual(read_crowd(12, "0,11"), (0, 11))


class JustWhatIsWritten(unittest.TestCase):
    """Of all short texts of some signs just those are read that are written of something."""

    def check(self, asked, n, written, texts):
        seen = 0
        for text in texts:
            if text in written:
                self.assertEqual(asked(n, text), written[text], (n, text))
                seen += 1
            else:
                with self.assertRaises(NoText, msg=(n, text)):
                    asked(n, text)
        return seen

    def test_crowds(self):
        written = {tones_by_hand(crowd): crowd for crowd in all_crowds(3)}
        self.assertEqual(self.check(read_crowd, 3, written, texts_up_to("0123,-", 5)), len(written))
        written = {tones_by_hand(crowd): crowd for crowd in all_crowds(12)}
        self.assertGreater(self.check(read_crowd, 12, written, texts_up_to("012, +", 5)), 10)

    def test_rows(self):
        written = {tones_by_hand(row): row for row in all_rows(3)}
        self.assertEqual(self.check(read_row, 3, written, texts_up_to("012,", 6)), 6)

    def test_changes(self):
        for n in (3, 12):
            written = {
                letter + number_by_hand(k): (word, k)
                for letter, word in (("t", "turn"), ("m", "mirror")) for k in range(n)
            }
            signs = "tm012- \n"
            found = self.check(read_change, n, written, texts_up_to(signs, 4))
            self.assertEqual(found, len([text for text in written if all(sign in signs for sign in text)]))


class NothingRefused(unittest.TestCase):
    def test_wheels_somewhat_beyond_the_bounds(self):
        for n in [1, 2, 25, 30]:
            whole = tuple(range(n))
            self.assertEqual(read_crowd(n, crowd_text(whole)), whole)
            self.assertEqual(read_crowd(n, "-"), ())
            self.assertEqual(read_row(n, crowd_text(whole[::-1])), whole[::-1])
            self.assertEqual(read_change(n, f"m{n - 1}"), ("mirror", n - 1))


if __name__ == "__main__":
    unittest.main()
