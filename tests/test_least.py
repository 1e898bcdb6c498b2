import functools
import itertools
import unittest

from tests.samples import (
    WHEELS, all_crowds, distance_by_hand, halves, is_leading, is_whole, move_by_hand, shuffled, some_crowds,
)
from tonemirror.errors import NoLeading, ToneError
from tonemirror.leadings import cost, crossings, square, uncrossed
from tonemirror.least import least_leading, prices


def rank_by_hand(n, one, seconds):
    pairs = list(zip(one, seconds))
    return (
        sum(distance_by_hand(n, a, b) for a, b in pairs),
        sum(move_by_hand(n, a, b) ** 2 for a, b in pairs),
        tuple(seconds),
    )


def least_by_hand(n, one, other):
    """The first of all leadings, each of them looked at."""
    best = min(rank_by_hand(n, one, seconds) for seconds in itertools.permutations(other))
    return (best[0], list(zip(one, best[2])))


def least_piece_by_piece(n, one, other):
    """The same for larger crowds: the best end of a leading hangs only on which second ones are left."""

    @functools.lru_cache(maxsize=None)
    def best_end(left):
        if not left:
            return (0, 0, ())
        a = one[len(one) - len(left)]
        found = []
        for b in left:
            end = best_end(tuple(tone for tone in left if tone != b))
            far = move_by_hand(n, a, b)
            found.append((abs(far) + end[0], far * far + end[1], (b,) + end[2]))
        return min(found)

    best = best_end(tuple(other))
    return (best[0], list(zip(one, best[2])))


def pairs_of_crowds(n, most):
    """Two crowds each, of as many tones, at most so many: all of wheels up to 5, chosen ones of the larger."""
    crowds = all_crowds(n) if n <= 5 else chosen_crowds(n, most)
    for one in crowds:
        for other in crowds:
            if len(one) == len(other) <= most:
                yield one, other


def chosen_crowds(n, most):
    found = [(), (0,), (n // 2,), (n - 1,), (0, n // 2), (1, n - 1)]
    for size in range(2, most + 1):
        found.extend(tuple(sorted(shuffled(range(n), start)[:size])) for start in (size, size + 5))
        found.append(tuple(range(size)))
        found.append(tuple(tone * n // size for tone in range(size)))
    return sorted(set(found))


def large_pairs(n):
    """Two crowds each, of more tones than all leadings can be walked through."""
    crowds = halves(n)[:5] + [tuple(range(n))] + [tuple(range(n - 1)), tuple(range(1, n))]
    for one in crowds:
        for other in crowds:
            if len(one) == len(other):
                yield one, other


class LeastLeading(unittest.TestCase):
    def test_ordinary(self):
        self.assertEqual(least_leading(12, (0, 4, 7), (0, 4, 9)), (2, [(0, 0), (4, 4), (7, 9)]))
        self.assertEqual(least_leading(12, (0, 4, 7), (2, 7, 11)), (3, [(0, 11), (4, 2), (7, 7)]))
        self.assertEqual(least_leading(12, (0, 4, 7), (0, 5, 9)), (3, [(0, 0), (4, 5), (7, 9)]))
        self.assertEqual(least_leading(7, (0, 2, 4), (1, 3, 6)), (3, [(0, 6), (2, 1), (4, 3)]))
        self.assertEqual(least_leading(3, (0, 1), (1, 2)), (1, [(0, 2), (1, 1)]))

    def test_of_like_costs_the_least_square(self):
        # 0 to 2 and 1 to 1 costs two as well, at a square of four.
        self.assertEqual(least_leading(12, (0, 1), (1, 2)), (2, [(0, 1), (1, 2)]))
        self.assertEqual(least_leading(24, (0, 1, 2, 3), (1, 2, 3, 4)), (4, [(0, 1), (1, 2), (2, 3), (3, 4)]))

    def test_of_like_squares_the_first_second_ones(self):
        # Both are at the same distance from both: the lesser one goes to the first.
        self.assertEqual(least_leading(4, (0, 2), (1, 3)), (2, [(0, 1), (2, 3)]))
        self.assertEqual(least_leading(12, (0, 6), (3, 9)), (6, [(0, 3), (6, 9)]))
        self.assertEqual(least_leading(12, (1, 4, 7, 10), (0, 3, 6, 9)), (4, [(1, 0), (4, 3), (7, 6), (10, 9)]))
        self.assertEqual(least_leading(8, (0, 2, 4, 6), (1, 3, 5, 7)), (4, [(0, 1), (2, 3), (4, 5), (6, 7)]))

    def test_one_tone_and_half_way_round(self):
        for n in WHEELS:
            for a in range(n):
                for b in range(n):
                    self.assertEqual(least_leading(n, (a,), (b,)), (distance_by_hand(n, a, b), [(a, b)]))

    def test_a_crowd_and_itself(self):
        for n in WHEELS:
            for crowd in some_crowds(n):
                self.assertEqual(least_leading(n, crowd, crowd), (0, [(tone, tone) for tone in crowd]))

    def test_no_tones_and_all_tones(self):
        for n in WHEELS:
            whole = tuple(range(n))
            self.assertEqual(least_leading(n, (), ()), (0, []))
            self.assertEqual(least_leading(n, whole, whole), (0, [(tone, tone) for tone in whole]))

    def test_against_all_leadings_of_small_crowds(self):
        for n in WHEELS:
            for one, other in pairs_of_crowds(n, 5):
                self.assertEqual(least_leading(n, one, other), least_by_hand(n, one, other), (n, one, other))

    def test_all_crowds_of_a_wheel(self):
        for n in (6, 7):
            for one in all_crowds(n):
                for other in all_crowds(n):
                    if len(one) == len(other) <= 4:
                        self.assertEqual(least_leading(n, one, other), least_by_hand(n, one, other), (n, one, other))

    def test_twelve_tones_of_a_wheel_of_24(self):
        crowds = halves(24)
        for one, other in [(crowds[0], crowds[-1]), (crowds[3], crowds[5]), (crowds[5], crowds[3])]:
            self.assertEqual(len(one), 12)
            self.assertEqual(least_leading(24, one, other), least_piece_by_piece(24, one, other), (one, other))
        even = tuple(range(0, 24, 2))
        odd = tuple(range(1, 24, 2))
        self.assertEqual(least_leading(24, even, odd), (12, list(zip(even, odd))))
        self.assertEqual(least_leading(24, odd, even), (12, list(zip(odd, even))))
        # The lower tones go down into the other half, the upper ones up: twelve ways of six steps each.
        self.assertEqual(least_leading(24, tuple(range(12)), tuple(range(12, 24)))[0], 72)

    def test_eleven_tones_of_a_wheel_of_23(self):
        crowds = halves(23)
        for one, other in [(crowds[0], crowds[-1]), (crowds[4], crowds[2])]:
            self.assertEqual(least_leading(23, one, other), least_piece_by_piece(23, one, other), (one, other))

    def test_kinds_of_what_is_told(self):
        for n in WHEELS:
            for one, other in list(pairs_of_crowds(n, 4)) + list(large_pairs(n)):
                told = least_leading(n, one, other)
                self.assertIs(type(told), tuple)
                self.assertEqual(len(told), 2)
                self.assertTrue(is_whole(told[0]))
                self.assertTrue(is_leading(n, told[1]), (n, told))
                self.assertEqual(told[0], cost(n, told[1]))
                self.assertEqual(tuple(a for a, b in told[1]), one)
                self.assertEqual(tuple(sorted(b for a, b in told[1])), other)

    def test_has_no_crossing(self):
        for n in WHEELS:
            for one, other in list(pairs_of_crowds(n, 4)) + list(large_pairs(n)):
                self.assertEqual(crossings(n, least_leading(n, one, other)[1]), [], (n, one, other))

    def test_no_leading_that_was_uncrossed_is_less(self):
        for n in WHEELS:
            for one, other in large_pairs(n):
                told = least_leading(n, one, other)
                for start in range(3):
                    last = uncrossed(n, list(zip(one, shuffled(other, start))))[-1]
                    rank = (cost(n, last), square(n, last), [b for a, b in last])
                    least = (told[0], square(n, told[1]), [b for a, b in told[1]])
                    self.assertLessEqual(least, rank, (n, one, other))


class Prices(unittest.TestCase):
    def check(self, n, one, other, least):
        told = prices(n, one, other)
        self.assertIs(type(told), tuple)
        self.assertEqual(len(told), 2)
        for numbers, crowd in zip(told, (one, other)):
            self.assertIs(type(numbers), tuple)
            self.assertEqual(len(numbers), len(crowd))
            self.assertTrue(all(is_whole(number) for number in numbers))
        self.assertEqual(sum(told[0]) + sum(told[1]), least, (n, one, other))
        for a, first in zip(one, told[0]):
            for b, second in zip(other, told[1]):
                self.assertLessEqual(first + second, distance_by_hand(n, a, b), (n, one, other))

    def test_small_crowds(self):
        for n in WHEELS:
            for one, other in pairs_of_crowds(n, 4):
                self.check(n, one, other, least_by_hand(n, one, other)[0])

    def test_large_crowds(self):
        for n in WHEELS:
            for one, other in large_pairs(n):
                # Prices of all tones that come to a leading's cost show that no leading costs less.
                self.check(n, one, other, least_leading(n, one, other)[0])

    def test_second_ones_that_are_led_to_out_of_their_order(self):
        # 11 is the last one of the other crowd, and 0 the first one of the one is led to it.
        self.check(12, (0, 4, 7), (2, 7, 11), 3)
        self.check(24, (0, 1, 2, 12), (11, 12, 22, 23), 13)
        self.check(7, (0, 2, 4), (1, 3, 6), 3)

    def test_all_crowds_of_a_wheel(self):
        for n in (6, 7):
            for one in all_crowds(n):
                for other in all_crowds(n):
                    if len(one) == len(other):
                        self.check(n, one, other, least_leading(n, one, other)[0])

    def test_no_tones_one_tone_and_all_tones(self):
        for n in WHEELS:
            whole = tuple(range(n))
            self.assertEqual(prices(n, (), ()), ((), ()))
            self.check(n, (0,), (n // 2,), n // 2)
            self.check(n, whole, whole, 0)
            self.check(n, whole[:-1], whole[1:], 1)


class Refused(unittest.TestCase):
    def refused(self, asked, n, one, other):
        with self.assertRaises(ToneError) as caught:
            asked(n, one, other)
        self.assertIs(type(caught.exception), NoLeading)

    def test_unlike_numbers_of_tones(self):
        for asked in (least_leading, prices):
            for n in WHEELS:
                for one in some_crowds(n)[::2]:
                    for other in some_crowds(n)[1::2]:
                        if len(one) != len(other):
                            self.refused(asked, n, one, other)
                            self.refused(asked, n, other, one)

    def test_no_tones_into_some_and_one_too_many(self):
        for asked in (least_leading, prices):
            self.refused(asked, 12, (), (0,))
            self.refused(asked, 12, (0,), ())
            self.refused(asked, 12, (0, 4, 7), (0, 4, 7, 10))
            self.refused(asked, 24, tuple(range(24)), tuple(range(23)))
            self.refused(asked, 3, (0, 1), (0, 1, 2))


class TheAskersOwn(unittest.TestCase):
    def test_a_told_list_is_not_told_again(self):
        first = least_leading(12, (0, 4, 7), (0, 4, 9))
        first[1].append((1, 1))
        first[1][0] = (0, 5)
        self.assertEqual(least_leading(7, (0, 4), (0, 4)), (0, [(0, 0), (4, 4)]))
        self.assertEqual(least_leading(12, (0, 4, 7), (0, 4, 9)), (2, [(0, 0), (4, 4), (7, 9)]))
        none = least_leading(12, (), ())
        none[1].append((1, 1))
        self.assertEqual(least_leading(12, (), ()), (0, []))

    def test_a_told_list_stays_when_others_are_asked(self):
        told = least_leading(12, (0, 4, 7), (0, 4, 9))
        least_leading(12, (0, 4, 7), (2, 7, 11))
        prices(12, (0, 4, 7), (0, 4, 9))
        self.assertEqual(told, (2, [(0, 0), (4, 4), (7, 9)]))

    def test_prices_after_a_refusal_and_another_wheel(self):
        first = prices(12, (0, 4, 7), (2, 7, 11))
        with self.assertRaises(NoLeading):
            prices(12, (0, 4, 7), (2, 7))
        prices(24, (0, 4, 7), (2, 7, 11))
        self.assertEqual(prices(12, (0, 4, 7), (2, 7, 11)), first)


class NothingRefused(unittest.TestCase):
    def test_somewhat_beyond_the_bounds(self):
        for n in [1, 2, 25, 30]:
            whole = tuple(range(n))
            self.assertEqual(least_leading(n, whole, whole), (0, [(tone, tone) for tone in whole]))
            self.assertEqual(least_leading(n, whole[:-1], whole[1:])[0], 1 if n > 1 else 0)
            told = prices(n, whole[:-1], whole[1:])
            self.assertEqual(sum(told[0]) + sum(told[1]), 1 if n > 1 else 0)


if __name__ == "__main__":
    unittest.main()
