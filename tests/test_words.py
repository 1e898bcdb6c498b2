import functools
import math
import unittest

from tests.samples import (
    WHEELS, all_chords, all_sorts, chosen_sorts, is_whole, long_words, some_sorts, words_up_to,
)
from tonemirror.chords import led
from tonemirror.words import effect, rules, shortest, steps

FAMILIAR = (12, 4, 3)


def follow(sort, state, letter):
    """What a letter makes of (flips, far), read from point 13."""
    n, x, y = sort
    flips, far = state
    if letter == "b":
        far = far - x if flips else far + x
    if letter == "c":
        far = far + y if flips else far - y
    return (1 - flips, far % n)


def effect_by_hand(sort, word):
    state = (0, 0)
    for letter in word:
        state = follow(sort, state, letter)
    return state


@functools.lru_cache(maxsize=None)
def first_word_to(sort, target):
    """The first word with an effect: from the end, how near each state is; from the front, the first letters."""
    states = [(flips, far) for flips in (0, 1) for far in range(sort[0])]
    near = [{target}]
    while (0, 0) not in near[-1]:
        near.append({state for state in states if any(follow(sort, state, letter) in near[-1] for letter in "abc")})
    word = ""
    state = (0, 0)
    for left in reversed(near[:-1]):
        letter = next(letter for letter in "abc" if follow(sort, state, letter) in left)
        word += letter
        state = follow(sort, state, letter)
    return word


def reachable(sort):
    """All effects of words of a sort."""
    found = {(0, 0)}
    newest = found
    while newest:
        newest = {follow(sort, state, letter) for state in newest for letter in "abc"} - found
        found = found | newest
    return found


def first_words(sort):
    return sorted((first_word_to(sort, state) for state in reachable(sort)), key=place)


def rules_by_hand(sort):
    """Point 15, from the first words of all effects."""
    first = first_words(sort)
    lefts = [word + letter for word in first for letter in "abc" if word + letter not in first]
    return [(left, first_word_to(sort, effect_by_hand(sort, left))) for left in sorted(lefts, key=place)]


def steps_by_hand(sort, word):
    """Point 15, each front looked at, and the first word with its effect put in its place."""
    found = [word]
    while True:
        fronts = [word[:length] for length in range(len(word) + 1)]
        first = [first_word_to(sort, effect_by_hand(sort, front)) for front in fronts]
        wrong = [length for length, front in enumerate(fronts) if front != first[length]]
        if not wrong:
            return found
        word = first[wrong[0]] + word[wrong[0]:]
        found.append(word)


def place(word):
    """By this key words are in the order of point 14."""
    return (len(word), word)


def is_word(value):
    return type(value) is str and set(value) <= set("abc")


class Effect(unittest.TestCase):
    def test_ordinary(self):
        self.assertEqual(effect(FAMILIAR, "a"), (1, 0))
        self.assertEqual(effect(FAMILIAR, "b"), (1, 4))
        self.assertEqual(effect(FAMILIAR, "c"), (1, 9))
        self.assertEqual(effect(FAMILIAR, "ab"), (0, 8))
        self.assertEqual(effect(FAMILIAR, "ba"), (0, 4))
        self.assertEqual(effect(FAMILIAR, "bc"), (0, 7))
        self.assertEqual(effect((7, 1, 3), "cb"), (0, 3))
        self.assertEqual(effect((7, 1, 3), "bca"), (1, 4))

    def test_without_letters(self):
        for sort in chosen_sorts():
            self.assertEqual(effect(sort, ""), (0, 0))

    def test_sixty_letters(self):
        self.assertEqual(effect((24, 1, 1), "bc" * 30), (0, 12))
        self.assertEqual(effect((7, 1, 3), "bc" * 30), (0, 1))
        self.assertEqual(effect(FAMILIAR, "a" * 60), (0, 0))
        self.assertEqual(effect(FAMILIAR, "a" * 59), (1, 0))

    def test_read_letter_by_letter(self):
        for sort in chosen_sorts():
            for word in words_up_to(3) + long_words():
                told = effect(sort, word)
                self.assertIs(type(told), tuple)
                self.assertTrue(all(is_whole(number) for number in told))
                self.assertEqual(told, effect_by_hand(sort, word), (sort, word))

    def test_tells_where_every_chord_is_led(self):
        for sort in chosen_sorts():
            n = sort[0]
            for word in ["", "a", "b", "c", "acb", "bcbc"] + long_words()[4:6]:
                flips, far = effect(sort, word)
                for root, way in all_chords(n):
                    led_root = (root + far if way == "up" else root - far) % n
                    other = "down" if way == "up" else "up"
                    self.assertEqual(led(sort, (root, way), word), (led_root, other if flips else way))


class Shortest(unittest.TestCase):
    def test_ordinary(self):
        self.assertEqual(shortest(FAMILIAR, "aa"), "")
        self.assertEqual(shortest(FAMILIAR, "bab"), "aba")
        self.assertEqual(shortest(FAMILIAR, "cba"), "abc")
        self.assertEqual(shortest(FAMILIAR, "bc"), "bc")
        self.assertEqual(shortest((3, 1, 1), "bc"), "ab")
        self.assertEqual(shortest((12, 4, 4), "bc"), "ab")

    def test_of_as_long_words_the_first_in_the_alphabet(self):
        # Here all three lead an up chord 4 upwards: y, x, and 12 less x + y.
        self.assertEqual([shortest((12, 4, 4), word) for word in ("ac", "ba", "cb")], ["ac", "ac", "ac"])

    def test_without_letters(self):
        for sort in chosen_sorts():
            self.assertEqual(shortest(sort, ""), "")

    def test_the_first_of_all_words_on_the_smallest_wheels(self):
        words = words_up_to(8)
        for n in (3, 4, 5, 6, 7):
            for sort in all_sorts(n):
                first = {}
                for word in words:
                    first.setdefault(effect_by_hand(sort, word), word)
                for word in words_up_to(4) + long_words():
                    self.assertEqual(shortest(sort, word), first[effect_by_hand(sort, word)], (sort, word))

    def test_no_word_with_the_same_effect_comes_before_it(self):
        for sort in chosen_sorts():
            for word in words_up_to(2) + long_words() + ["bca", "cabc", "bcbcbcb"]:
                told = shortest(sort, word)
                self.assertTrue(is_word(told))
                self.assertEqual(told, first_word_to(sort, effect_by_hand(sort, word)), (sort, word))

    def test_every_effect_of_wide_wheels(self):
        for sort in [(23, 1, 1), (24, 1, 1), (24, 7, 16), (24, 8, 8), (24, 6, 9), (12, 2, 4)]:
            for state in reachable(sort):
                word = first_word_to(sort, state)
                self.assertEqual(shortest(sort, word), word)
                self.assertEqual(shortest(sort, "cc" + word + "bb"), word)

    def test_has_the_same_effect_and_is_its_own_shortest(self):
        for sort in chosen_sorts():
            for word in words_up_to(3) + long_words():
                told = shortest(sort, word)
                self.assertEqual(effect(sort, told), effect(sort, word))
                self.assertEqual(shortest(sort, told), told)
                self.assertLessEqual(place(told), place(word))


class Rules(unittest.TestCase):
    def test_ordinary(self):
        self.assertEqual(
            rules((3, 1, 1)),
            [("aa", ""), ("ba", "ac"), ("bb", ""), ("bc", "ab"), ("ca", "ab"), ("cb", "ac"), ("cc", ""), ("aba", "c"),
             ("abb", "a"), ("abc", "b"), ("aca", "b"), ("acb", "c"), ("acc", "a")],
        )
        self.assertEqual(
            rules(FAMILIAR)[:12],
            [("aa", ""), ("bb", ""), ("cc", ""), ("abb", "a"), ("acc", "a"), ("baa", "b"), ("bab", "aba"),
             ("bca", "acb"), ("bcc", "b"), ("caa", "c"), ("cab", "bac"), ("cba", "abc")],
        )

    def test_all_left_ones_of_the_smallest_wheels(self):
        for n in (3, 4, 5, 6):
            for sort in all_sorts(n):
                lefts = []
                # No shortest word of these sorts has more than four letters, so no left one more than five.
                for word in words_up_to(6)[1:]:
                    front = word[:-1]
                    if shortest(sort, word) != word and shortest(sort, front) == front:
                        lefts.append(word)
                self.assertEqual([left for left, right in rules(sort)], lefts, sort)

    def test_left_and_right_ones_of_every_wheel(self):
        for sort in chosen_sorts():
            told = rules(sort)
            self.assertIs(type(told), list)
            self.assertTrue(all(type(rule) is tuple and len(rule) == 2 for rule in told))
            self.assertTrue(all(is_word(left) and is_word(right) for left, right in told))
            self.assertEqual(told, rules_by_hand(sort), sort)

    def test_in_the_order_of_the_left_ones_each_once(self):
        for sort in chosen_sorts():
            lefts = [left for left, right in rules(sort)]
            self.assertEqual(lefts, sorted(set(lefts), key=place))

    def test_the_right_one_is_the_shortest_of_the_left_one(self):
        for sort in chosen_sorts():
            for left, right in rules(sort):
                self.assertEqual(right, shortest(sort, left))
                self.assertNotEqual(left, right)
                self.assertEqual(shortest(sort, left[:-1]), left[:-1])

    def test_how_many(self):
        # There are 2 n / g effects, g the greatest that parts n, x and y. Each shortest word has three
        # longer ones by a letter, and of all these just the shortest ones but the empty one are no left ones.
        for sort in chosen_sorts():
            effects = 2 * sort[0] // math.gcd(*sort)
            self.assertEqual(len(rules(sort)), 2 * effects + 1, sort)

    def test_a_told_list_is_the_askers_own(self):
        kept = rules((7, 1, 3))
        told = rules((7, 1, 3))
        told.reverse()
        told.pop()
        told.append(("a", "b"))
        self.assertEqual(rules((3, 1, 1))[1], ("ba", "ac"))
        self.assertEqual(rules((7, 3, 1))[0], ("aa", ""))
        self.assertEqual(rules((7, 1, 3)), kept)
        self.assertEqual(kept, rules_by_hand((7, 1, 3)))
        self.assertEqual(steps((7, 1, 3), "aab"), ["aab", "b"])


class Steps(unittest.TestCase):
    def test_ordinary(self):
        self.assertEqual(steps(FAMILIAR, "cbabc"), ["cbabc", "abcbc"])
        self.assertEqual(steps(FAMILIAR, "abba"), ["abba", "aa", ""])
        self.assertEqual(steps((3, 1, 1), "cbabc"), ["cbabc", "acabc", "bbc", "c"])
        self.assertEqual(steps((7, 1, 3), "cbabcca"), ["cbabcca", "acabcca", "abcbcca", "abaccca", "abaca", "bab"])

    def test_of_a_shortest_word_the_word_alone(self):
        for sort in chosen_sorts():
            self.assertEqual(steps(sort, ""), [""])
            for word in first_words(sort):
                self.assertEqual(steps(sort, word), [word])

    def test_each_step_of_every_wheel(self):
        for n in WHEELS:
            for sort in some_sorts(n)[::3] + [(n, 1, n - 2)]:
                for word in ["b", "cba", "bcbacbab", "ccbbaa", "cacbabc"]:
                    told = steps(sort, word)
                    self.assertIs(type(told), list)
                    self.assertEqual(told, steps_by_hand(sort, word), (sort, word))

    def test_sixty_letters(self):
        for sort in [(3, 1, 1), (7, 1, 3), FAMILIAR]:
            for word in long_words():
                self.assertEqual(steps(sort, word), steps_by_hand(sort, word), (sort, word))

    def test_the_last_one_is_the_shortest(self):
        for sort in chosen_sorts():
            for word in words_up_to(3) + long_words():
                told = steps(sort, word)
                self.assertEqual(told[0], word)
                self.assertEqual(told[-1], shortest(sort, word))

    def test_the_steps_are_steps_of_the_told_rules(self):
        for sort in chosen_sorts():
            told = rules(sort)
            for word in long_words():
                found = steps(sort, word)
                for one, other in zip(found, found[1:]):
                    # No left one is the front of another, so just one rule is at hand.
                    made = [right + one[len(left):] for left, right in told if one.startswith(left)]
                    self.assertEqual(made, [other])
                    self.assertLess(place(other), place(one))
                    self.assertEqual(effect(sort, other), effect(sort, word))

    def test_a_told_list_is_the_askers_own(self):
        kept = steps(FAMILIAR, "abba")
        told = steps(FAMILIAR, "abba")
        told.clear()
        self.assertEqual(steps((3, 1, 1), "abba"), ["abba", "aa", ""])
        self.assertEqual(steps(FAMILIAR, "cbabc"), ["cbabc", "abcbc"])
        self.assertEqual(steps(FAMILIAR, "abba"), kept)
        self.assertEqual(kept, ["abba", "aa", ""])


class HandedIn(unittest.TestCase):
    def test_stays_as_it_was(self):
        sort = (12, 4, 3)
        word = "cbabc"
        effect(sort, word)
        shortest(sort, word)
        rules(sort)
        steps(sort, word)
        self.assertEqual((sort, word), ((12, 4, 3), "cbabc"))


class NothingRefused(unittest.TestCase):
    def test_somewhat_beyond_the_bounds(self):
        self.assertEqual(effect(FAMILIAR, "a" * 61), (1, 0))
        self.assertEqual(shortest(FAMILIAR, "ab" * 36), "")
        self.assertEqual(steps(FAMILIAR, "b" * 70)[-1], "")
        self.assertEqual(shortest((30, 1, 1), "bb"), "")
        self.assertEqual(len(rules((25, 1, 1))), 101)


if __name__ == "__main__":
    unittest.main()
