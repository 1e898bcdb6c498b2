import unittest

from tests.samples import SMALL_WHEELS, WHEELS, all_crowds, halves, is_whole, some_crowds
from tonemirror.crowds import counts, others
from tonemirror.errors import NoHalf, NoLeading, NoRow, NoText, ToneError, Unknown
from tonemirror.halves import counts_of_others, matched, pairs_at

EVEN = [n for n in WHEELS if n % 2 == 0]
ODD = [n for n in WHEELS if n % 2 == 1]


def crowds(n):
    return all_crowds(n) if n in SMALL_WHEELS else some_crowds(n)


def upwards(n, one, other):
    """The step from a tone to another, walked tone by tone."""
    many = 0
    while one != other:
        one = 0 if one == n - 1 else one + 1
        many += 1
    return many


def pairs_by_hand(n, crowd, d):
    """Point 10, read from every two tones of the crowd."""
    found = [(a, b) for a in crowd for b in crowd if a != b and upwards(n, a, b) == d]
    if 2 * d == n:
        found = [(a, b) for a, b in found if a < b]
    return sorted(found)


class CountsOfOthers(unittest.TestCase):
    def test_ordinary(self):
        self.assertEqual(counts_of_others(12, 3, (0, 0, 1, 1, 1, 0)), (6, 6, 7, 7, 7, 3))
        self.assertEqual(counts_of_others(12, 7, (2, 5, 4, 3, 6, 1)), (0, 3, 2, 1, 4, 0))
        self.assertEqual(counts_of_others(7, 3, (1, 1, 1)), (2, 2, 2))
        self.assertEqual(counts_of_others(7, 4, (2, 2, 2)), (1, 1, 1))
        self.assertEqual(counts_of_others(4, 2, (0, 1)), (0, 1))
        self.assertEqual(counts_of_others(3, 2, (1,)), (0,))

    def test_half_way_round_gains_half_as_much(self):
        self.assertEqual(counts_of_others(24, 2, (0,) * 11 + (1,)), (20,) * 11 + (11,))
        # A wheel with an odd number of tones has no half way round.
        self.assertEqual(counts_of_others(23, 2, (0,) * 10 + (1,)), (19,) * 10 + (20,))

    def test_none_and_all(self):
        for n in WHEELS:
            none = counts(n, ())
            whole = counts(n, tuple(range(n)))
            self.assertEqual(counts_of_others(n, 0, none), whole)
            self.assertEqual(counts_of_others(n, n, whole), none)

    def test_are_the_counts_of_the_others(self):
        for n in WHEELS:
            for crowd in crowds(n):
                told = counts_of_others(n, len(crowd), counts(n, crowd))
                self.assertIs(type(told), tuple)
                self.assertTrue(all(is_whole(number) for number in told))
                self.assertEqual(told, counts(n, others(n, crowd)), (n, crowd))

    def test_differ_from_the_own_counts_at_each_distance(self):
        for n in WHEELS:
            for crowd in crowds(n):
                own = counts(n, crowd)
                told = counts_of_others(n, len(crowd), own)
                self.assertEqual(len(told), n // 2)
                for d in range(1, n // 2 + 1):
                    gained = told[d - 1] - own[d - 1]
                    # Half of it half way round, without a rest.
                    self.assertEqual(gained * (2 if 2 * d == n else 1), n - 2 * len(crowd), (n, crowd, d))

    def test_two_halves_have_the_same_counts(self):
        for n in EVEN:
            for half in halves(n):
                own = counts(n, half)
                self.assertEqual(counts_of_others(n, n // 2, own), own)
                self.assertEqual(counts(n, others(n, half)), own)

    def test_the_numbers_handed_in_stay_and_are_not_kept(self):
        numbers = [0, 0, 1, 1, 1, 0]
        told = counts_of_others(12, 3, numbers)
        self.assertEqual(numbers, [0, 0, 1, 1, 1, 0])
        numbers[0] = 5
        self.assertEqual(told, (6, 6, 7, 7, 7, 3))
        self.assertEqual(counts_of_others(12, 3, (0, 0, 1, 1, 1, 0)), (6, 6, 7, 7, 7, 3))


class PairsAt(unittest.TestCase):
    def test_ordinary(self):
        self.assertEqual(pairs_at(12, (0, 4, 7), 4), [(0, 4)])
        self.assertEqual(pairs_at(12, (0, 4, 7), 5), [(7, 0)])
        self.assertEqual(pairs_at(12, (0, 4, 7), 1), [])
        self.assertEqual(pairs_at(12, (0, 2, 4, 5, 7, 9, 11), 2), [(0, 2), (2, 4), (5, 7), (7, 9), (9, 11)])
        self.assertEqual(pairs_at(12, (0, 4, 8), 4), [(0, 4), (4, 8), (8, 0)])

    def test_half_way_round_only_from_the_lesser_one(self):
        self.assertEqual(pairs_at(12, (1, 3, 7, 9), 6), [(1, 7), (3, 9)])
        self.assertEqual(pairs_at(4, (0, 1, 2, 3), 2), [(0, 2), (1, 3)])
        for n in EVEN:
            half = n // 2
            self.assertEqual(pairs_at(n, tuple(range(n)), half), [(tone, tone + half) for tone in range(half)])

    def test_odd_wheels_have_no_half_way_round(self):
        self.assertEqual(pairs_at(7, (0, 1, 3, 4), 3), [(0, 3), (1, 4), (4, 0)])
        self.assertEqual(pairs_at(3, (0, 1, 2), 1), [(0, 1), (1, 2), (2, 0)])
        for n in ODD:
            told = pairs_at(n, tuple(range(n)), n // 2)
            self.assertEqual(told, [(tone, (tone + n // 2) % n) for tone in range(n)])

    def test_none_and_one_tone_have_no_pairs(self):
        for n in WHEELS:
            for d in range(1, n // 2 + 1):
                self.assertEqual(pairs_at(n, (), d), [])
                self.assertEqual(pairs_at(n, (n - 1,), d), [])

    def test_every_two_tones_at_the_distance_rising(self):
        for n in WHEELS:
            for crowd in crowds(n):
                for d in range(1, n // 2 + 1):
                    told = pairs_at(n, crowd, d)
                    self.assertIs(type(told), list)
                    self.assertTrue(all(type(pair) is tuple for pair in told))
                    self.assertEqual(told, pairs_by_hand(n, crowd, d), (n, crowd, d))

    def test_as_many_as_the_counts_tell(self):
        for n in WHEELS:
            for crowd in crowds(n):
                many = [len(pairs_at(n, crowd, d)) for d in range(1, n // 2 + 1)]
                self.assertEqual(tuple(many), counts(n, crowd))

    def test_a_told_list_is_the_askers_own(self):
        kept = pairs_at(12, (0, 4, 8), 4)
        told = pairs_at(12, (0, 4, 8), 4)
        told.reverse()
        told.pop()
        self.assertEqual(pairs_at(9, (0, 4, 8), 4), [(0, 4), (4, 8)])
        self.assertEqual(pairs_at(12, (0, 4, 8), 4), kept)
        self.assertEqual(kept, [(0, 4), (4, 8), (8, 0)])


class Matched(unittest.TestCase):
    def test_ordinary(self):
        self.assertEqual(
            matched(12, (0, 1, 2, 3, 4, 5), 4),
            [((0, 4), (6, 10)), ((1, 5), (7, 11))],
        )
        self.assertEqual(
            matched(12, (0, 2, 4, 6, 8, 10), 2),
            [((0, 2), (1, 3)), ((2, 4), (3, 5)), ((4, 6), (5, 7)), ((6, 8), (7, 9)), ((8, 10), (9, 11)),
             ((10, 0), (11, 1))],
        )
        self.assertEqual(matched(12, (0, 2, 4, 6, 8, 10), 3), [])
        self.assertEqual(matched(4, (0, 3), 1), [((3, 0), (1, 2))])

    def test_half_way_round(self):
        self.assertEqual(matched(8, (0, 1, 4, 6), 4), [((0, 4), (3, 7))])
        self.assertEqual(matched(4, (1, 3), 2), [((1, 3), (0, 2))])

    def test_the_first_with_the_first_and_so_on(self):
        for n in EVEN:
            for half in halves(n):
                for d in range(1, n // 2 + 1):
                    told = matched(n, half, d)
                    self.assertIs(type(told), list)
                    self.assertTrue(all(type(match) is tuple and len(match) == 2 for match in told))
                    self.assertEqual([match[0] for match in told], pairs_by_hand(n, half, d))
                    outside = tuple(tone for tone in range(n) if tone not in half)
                    self.assertEqual([match[1] for match in told], pairs_by_hand(n, outside, d))

    def test_a_told_list_is_the_askers_own(self):
        half = (0, 1, 2, 3)
        kept = matched(8, half, 1)
        told = matched(8, half, 1)
        told[0] = "another"
        told.append("more")
        self.assertEqual(matched(6, (0, 1, 2), 1), [((0, 1), (3, 4)), ((1, 2), (4, 5))])
        self.assertEqual(matched(8, half, 1), kept)
        self.assertEqual(kept, [((0, 1), (4, 5)), ((1, 2), (5, 6)), ((2, 3), (6, 7))])
        self.assertEqual(half, (0, 1, 2, 3))


class NoHalves(unittest.TestCase):
    def refused(self, n, crowd, d=1):
        with self.assertRaises(ToneError) as taken:
            matched(n, crowd, d)
        self.assertIs(type(taken.exception), NoHalf, (n, crowd, d))
        self.assertNotIsInstance(taken.exception, (NoLeading, NoRow, NoText, Unknown))

    def test_one_tone_too_few_or_too_many(self):
        for n in EVEN:
            for d in range(1, n // 2 + 1):
                self.refused(n, tuple(range(n // 2 - 1)), d)
                self.refused(n, tuple(range(n // 2 + 1)), d)

    def test_none_and_all(self):
        for n in WHEELS:
            self.refused(n, ())
            self.refused(n, tuple(range(n)))

    def test_odd_wheels_have_no_half(self):
        for n in ODD:
            for d in range(1, n // 2 + 1):
                self.refused(n, tuple(range(n // 2)), d)
                self.refused(n, tuple(range(n // 2 + 1)), d)

    def test_every_size_but_the_half(self):
        for n in SMALL_WHEELS + [8]:
            for crowd in all_crowds(n):
                if 2 * len(crowd) == n:
                    matched(n, crowd, 1)
                else:
                    self.refused(n, crowd)

    def test_numbers_that_are_no_crowd(self):
        self.refused(4, (1, 0))
        self.refused(4, (1, 1))
        self.refused(4, (0, 4))
        self.refused(4, (-1, 0))
        self.refused(6, (0, 1, 1))


class NothingElseRefused(unittest.TestCase):
    def test_wheels_and_distances_somewhat_beyond_the_bounds(self):
        self.assertEqual(counts_of_others(26, 0, (0,) * 13), (26,) * 12 + (13,))
        self.assertEqual(counts_of_others(2, 1, (0,)), (0,))
        self.assertEqual(pairs_at(25, (0, 12, 24), 12), [(0, 12), (12, 24)])
        self.assertEqual(matched(26, tuple(range(13)), 12), [((0, 12), (13, 25))])
        self.assertEqual(matched(2, (1,), 1), [])
        self.assertEqual(pairs_at(12, (0, 4, 7), 7), [(0, 7)])


if __name__ == "__main__":
    unittest.main()
