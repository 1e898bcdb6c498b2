import unittest

from tests.samples import all_chords, chosen_sorts, is_chord, is_whole, long_words, words_up_to
from tonemirror.chords import chord_changed, led, tones
from tonemirror.crowds import changed, common, crowd_of
from tonemirror.wheel import changes


class Tones(unittest.TestCase):
    def test_up_and_down(self):
        self.assertEqual(tones((12, 4, 3), (0, "up")), (0, 4, 7))
        self.assertEqual(tones((12, 4, 3), (0, "down")), (0, 3, 7))
        self.assertEqual(tones((7, 1, 3), (2, "up")), (2, 3, 6))
        self.assertEqual(tones((7, 1, 3), (2, "down")), (2, 5, 6))

    def test_the_rest_goes_round(self):
        self.assertEqual(tones((12, 4, 3), (9, "up")), (9, 1, 4))
        self.assertEqual(tones((12, 4, 3), (9, "down")), (9, 0, 4))
        self.assertEqual(tones((24, 8, 8), (23, "up")), (23, 7, 15))
        self.assertEqual(tones((3, 1, 1), (2, "down")), (2, 0, 1))

    def test_x_and_y_the_same(self):
        for root in range(12):
            self.assertEqual(tones((12, 4, 4), (root, "up")), tones((12, 4, 4), (root, "down")))

    def test_x_and_y_just_below_the_wheel(self):
        self.assertEqual(tones((12, 5, 6), (1, "up")), (1, 6, 0))
        self.assertEqual(tones((12, 5, 6), (1, "down")), (1, 7, 0))
        self.assertEqual(tones((24, 22, 1), (5, "up")), (5, 3, 4))

    def test_three_unlike_tones_for_every_chord(self):
        for sort in chosen_sorts():
            n, x, y = sort
            for root, way in all_chords(n):
                told = tones(sort, (root, way))
                self.assertIs(type(told), tuple)
                self.assertTrue(all(is_whole(tone) and 0 <= tone < n for tone in told))
                wheel = list(range(n)) * 2
                between = x if way == "up" else y
                self.assertEqual(told, (root, wheel[root + between], wheel[root + x + y]), (sort, root, way))
                self.assertEqual(len(set(told)), 3)


class Letters(unittest.TestCase):
    def test_ordinary(self):
        sort = (12, 4, 3)
        self.assertEqual(led(sort, (0, "up"), "a"), (0, "down"))
        self.assertEqual(led(sort, (0, "up"), "b"), (4, "down"))
        self.assertEqual(led(sort, (0, "up"), "c"), (9, "down"))
        self.assertEqual(led(sort, (0, "down"), "a"), (0, "up"))
        self.assertEqual(led(sort, (0, "down"), "b"), (8, "up"))
        self.assertEqual(led(sort, (0, "down"), "c"), (3, "up"))

    def test_on_a_wheel_with_an_odd_number_of_tones(self):
        sort = (7, 1, 3)
        self.assertEqual([led(sort, (6, "up"), letter) for letter in "abc"], [(6, "down"), (0, "down"), (3, "down")])
        self.assertEqual([led(sort, (6, "down"), letter) for letter in "abc"], [(6, "up"), (5, "up"), (2, "up")])

    def test_to_the_other_way(self):
        for sort in chosen_sorts():
            for chord in all_chords(sort[0]):
                for letter in "abc":
                    told = led(sort, chord, letter)
                    self.assertTrue(is_chord(sort[0], told))
                    self.assertNotEqual(told[1], chord[1])

    def test_done_twice_leads_back(self):
        for sort in chosen_sorts():
            for chord in all_chords(sort[0]):
                for letter in "abc":
                    self.assertEqual(led(sort, led(sort, chord, letter), letter), chord, (sort, chord, letter))
                    self.assertEqual(led(sort, chord, letter * 2), chord)

    def test_two_tones_in_common(self):
        for sort in chosen_sorts():
            n = sort[0]
            for chord in all_chords(n):
                for letter in "abc":
                    one = crowd_of(n, tones(sort, chord))
                    other = crowd_of(n, tones(sort, led(sort, chord, letter)))
                    self.assertGreaterEqual(len(common(one, other)), 2, (sort, chord, letter))

    def test_which_tones_are_kept(self):
        for sort in chosen_sorts():
            for root in range(sort[0]):
                up = tones(sort, (root, "up"))
                made = [tones(sort, led(sort, (root, "up"), letter)) for letter in "abc"]
                self.assertEqual((made[0][0], made[0][2]), (up[0], up[2]))
                self.assertEqual((made[1][0], made[1][1]), (up[1], up[2]))
                self.assertEqual((made[2][1], made[2][2]), (up[0], up[1]))
                down = tones(sort, (root, "down"))
                made = [tones(sort, led(sort, (root, "down"), letter)) for letter in "abc"]
                self.assertEqual((made[0][0], made[0][2]), (down[0], down[2]))
                self.assertEqual((made[1][1], made[1][2]), (down[0], down[1]))
                self.assertEqual((made[2][0], made[2][1]), (down[1], down[2]))


class WordsDone(unittest.TestCase):
    def test_from_the_left(self):
        sort = (12, 4, 3)
        self.assertEqual(led(sort, (0, "up"), "ab"), (8, "up"))
        self.assertEqual(led(sort, (0, "up"), "ba"), (4, "up"))
        self.assertEqual(led(sort, (0, "up"), "abc"), (5, "down"))
        self.assertEqual(led(sort, (2, "down"), "cab"), (1, "up"))

    def test_without_letters(self):
        for sort in chosen_sorts():
            for chord in all_chords(sort[0]):
                self.assertEqual(led(sort, chord, ""), chord)

    def test_letter_by_letter(self):
        for sort in [(3, 1, 1), (7, 2, 3), (12, 4, 3), (12, 5, 6), (24, 7, 7)]:
            for chord in all_chords(sort[0])[::5]:
                for word in words_up_to(3) + long_words():
                    single = chord
                    for letter in word:
                        single = led(sort, single, letter)
                    self.assertEqual(led(sort, chord, word), single)

    def test_sixty_letters(self):
        # cb leads an up chord x + y downwards: thirty times 7 are 210, and 210 is 6 above a multiple of 12.
        self.assertEqual(led((12, 4, 3), (0, "up"), "cb" * 30), (6, "up"))
        # From the first up chord bc leads x + y upwards: thirty times 2 are 60.
        self.assertEqual(led((24, 1, 1), (0, "up"), "bc" * 30), (12, "up"))
        self.assertEqual(led((24, 1, 1), (0, "down"), "bc" * 30), (12, "down"))
        self.assertEqual(led((7, 1, 3), (0, "up"), "bc" * 30), (1, "up"))
        self.assertEqual(led((7, 1, 3), (0, "down"), "bc" * 30), (6, "down"))

    def test_a_word_and_then_backwards_leads_back(self):
        for sort in chosen_sorts():
            for chord in all_chords(sort[0])[:: max(1, sort[0] // 3)]:
                for word in ["", "b", "acb", "bcab"] + long_words():
                    self.assertEqual(led(sort, led(sort, chord, word), word[::-1]), chord, (sort, chord, word))


class ChordsChanged(unittest.TestCase):
    def test_turns(self):
        self.assertEqual(chord_changed((12, 4, 3), (0, "up"), ("turn", 7)), (7, "up"))
        self.assertEqual(chord_changed((12, 4, 3), (9, "down"), ("turn", 7)), (4, "down"))
        self.assertEqual(chord_changed((7, 1, 3), (6, "up"), ("turn", 6)), (5, "up"))
        self.assertEqual(chord_changed((7, 1, 3), (6, "up"), ("turn", 0)), (6, "up"))

    def test_mirrors(self):
        self.assertEqual(chord_changed((12, 4, 3), (0, "up"), ("mirror", 7)), (0, "down"))
        self.assertEqual(chord_changed((12, 4, 3), (0, "up"), ("mirror", 0)), (5, "down"))
        self.assertEqual(chord_changed((12, 4, 3), (9, "down"), ("mirror", 2)), (10, "up"))
        self.assertEqual(chord_changed((7, 1, 3), (6, "up"), ("mirror", 1)), (5, "down"))
        self.assertEqual(chord_changed((24, 22, 1), (23, "down"), ("mirror", 23)), (1, "up"))

    def test_as_told_for_every_chord_and_change(self):
        for sort in chosen_sorts():
            n, x, y = sort
            for root, way in all_chords(n):
                for k in range(n):
                    turned = chord_changed(sort, (root, way), ("turn", k))
                    mirrored = chord_changed(sort, (root, way), ("mirror", k))
                    self.assertTrue(is_chord(n, turned) and is_chord(n, mirrored))
                    self.assertEqual(turned, ((root + k) % n, way))
                    self.assertEqual(mirrored, ((k - root - x - y) % n, "down" if way == "up" else "up"))

    def test_the_tones_are_the_changed_tones(self):
        for sort in chosen_sorts():
            n = sort[0]
            for chord in all_chords(n)[:: max(1, n // 4)]:
                for change in changes(n):
                    told = crowd_of(n, tones(sort, chord_changed(sort, chord, change)))
                    self.assertEqual(told, changed(n, crowd_of(n, tones(sort, chord)), change), (sort, chord, change))


class WordsAndChangesInEitherOrder(unittest.TestCase):
    def same(self, sort, chord, change, word):
        change_first = led(sort, chord_changed(sort, chord, change), word)
        word_first = chord_changed(sort, led(sort, chord, word), change)
        self.assertEqual(change_first, word_first, (sort, chord, change, word))

    def test_the_letters_with_every_chord_and_change(self):
        for sort in [(3, 1, 1), (7, 1, 3), (8, 3, 3), (12, 4, 3), (12, 5, 6), (13, 3, 9), (24, 7, 16)]:
            for chord in all_chords(sort[0]):
                for change in changes(sort[0]):
                    for letter in "abc":
                        self.same(sort, chord, change, letter)

    def test_words_on_every_wheel(self):
        for sort in chosen_sorts():
            n = sort[0]
            for chord in ((0, "up"), (n - 1, "down")):
                for change in changes(n)[:: max(1, n // 3)] + [("mirror", n - 1)]:
                    for word in ["", "ab", "bca"] + long_words()[::3]:
                        self.same(sort, chord, change, word)


class HandedIn(unittest.TestCase):
    def test_stays_as_it_was(self):
        sort = (12, 4, 3)
        chord = (9, "down")
        change = ("mirror", 2)
        word = "abcba"
        tones(sort, chord)
        led(sort, chord, word)
        chord_changed(sort, chord, change)
        self.assertEqual((sort, chord, change, word), ((12, 4, 3), (9, "down"), ("mirror", 2), "abcba"))


class NothingRefused(unittest.TestCase):
    def test_somewhat_beyond_the_bounds(self):
        self.assertEqual(tones((30, 10, 9), (29, "up")), (29, 9, 18))
        self.assertEqual(led((12, 4, 3), (0, "up"), "a" * 61), (0, "down"))
        self.assertEqual(led((25, 1, 1), (0, "up"), "bc" * 50), (0, "up"))
        self.assertEqual(tones((3, 1, 2), (0, "up")), (0, 1, 0))
        self.assertEqual(chord_changed((12, 4, 3), (0, "up"), ("turn", 14)), (2, "up"))


if __name__ == "__main__":
    unittest.main()
