import itertools
import unittest

from tests.samples import all_crowds, is_crowd
from tonemirror.crowds import counts, others
from tonemirror.families import kinds_of, twins
from tonemirror.kinds import before, least_form, ways

FAMILY_WHEELS = list(range(3, 13))


def kinds_by_hand(n):
    """All least forms of a wheel, from every crowd of it, each image walked out."""
    found = set()
    for crowd in all_crowds(n):
        turned = [tuple(sorted((tone + k) % n for tone in crowd)) for k in range(n)]
        mirrored = [tuple(sorted((k - tone) % n for tone in crowd)) for k in range(n)]
        found.add(min(turned + mirrored))
    return found


def counts_by_hand(n, crowd):
    apart = [min(b - a, n - b + a) for a, b in itertools.combinations(crowd, 2)]
    return [apart.count(d) for d in range(1, n // 2 + 1)]


def in_order(crowds):
    return sorted(crowds, key=lambda crowd: (len(crowd), crowd))


class KindsOf(unittest.TestCase):
    def test_ordinary(self):
        self.assertEqual(kinds_of(6, 3), [(0, 1, 2), (0, 1, 3), (0, 2, 4)])
        self.assertEqual(kinds_of(7, 3), [(0, 1, 2), (0, 1, 3), (0, 1, 4), (0, 2, 4)])
        self.assertEqual(kinds_of(12, 2), [(0, 1), (0, 2), (0, 3), (0, 4), (0, 5), (0, 6)])
        self.assertEqual(
            kinds_of(12, 3),
            [(0, 1, 2), (0, 1, 3), (0, 1, 4), (0, 1, 5), (0, 1, 6), (0, 2, 4), (0, 2, 5), (0, 2, 6), (0, 2, 7),
             (0, 3, 6), (0, 3, 7), (0, 4, 8)],
        )

    def test_how_many_on_the_wheel_of_twelve(self):
        # The well known numbers of the crowds of each size that are unlike by turns and mirrors.
        many = [len(kinds_of(12, size)) for size in range(13)]
        self.assertEqual(many, [1, 1, 6, 12, 29, 38, 50, 38, 29, 12, 6, 1, 1])

    def test_sizes_nought_one_and_all(self):
        for n in FAMILY_WHEELS:
            self.assertEqual(kinds_of(n, 0), [()])
            self.assertEqual(kinds_of(n, 1), [(0,)])
            self.assertEqual(kinds_of(n, n - 1), [tuple(range(n - 1))])
            self.assertEqual(kinds_of(n, n), [tuple(range(n))])

    def test_all_least_forms_each_once_in_order(self):
        for n in FAMILY_WHEELS:
            every = kinds_by_hand(n)
            for size in range(n + 1):
                told = kinds_of(n, size)
                self.assertIs(type(told), list)
                self.assertTrue(all(is_crowd(n, kind) for kind in told))
                self.assertEqual(told, sorted(kind for kind in every if len(kind) == size), (n, size))
                for one, other in zip(told, told[1:]):
                    self.assertTrue(before(one, other))

    def test_each_is_its_own_least_form(self):
        for n in FAMILY_WHEELS:
            for size in range(n + 1):
                for kind in kinds_of(n, size):
                    self.assertEqual(least_form(n, kind), kind)

    def test_a_told_list_is_the_askers_own(self):
        kept = kinds_of(6, 3)
        told = kinds_of(6, 3)
        told.reverse()
        told.append((9,))
        self.assertEqual(kinds_of(7, 2), [(0, 1), (0, 2), (0, 3)])
        self.assertEqual(kinds_of(6, 2), [(0, 1), (0, 2), (0, 3)])
        self.assertEqual(kinds_of(6, 3), kept)
        self.assertEqual(kept, [(0, 1, 2), (0, 1, 3), (0, 2, 4)])


class Twins(unittest.TestCase):
    def test_wheels_that_have_none(self):
        for n in (3, 4, 5, 6, 7, 9, 11):
            self.assertEqual(twins(n, n), [])

    def test_wheels_that_have_some(self):
        self.assertEqual(twins(8, 8), [((0, 1, 2, 5), (0, 1, 3, 4))])
        self.assertEqual(
            twins(10, 10),
            [((0, 1, 2, 3, 6), (0, 1, 2, 4, 5)), ((0, 1, 2, 4, 7), (0, 1, 3, 4, 6)),
             ((0, 1, 2, 5, 7), (0, 1, 3, 5, 6))],
        )
        self.assertEqual(twins(12, 4), [((0, 1, 3, 7), (0, 1, 4, 6))])

    def test_how_many_on_the_wheel_of_twelve(self):
        # The well known numbers: 1 of four tones, 3 of five, 15 of six, and as many again of the others.
        self.assertEqual([len(twins(12, most)) for most in range(13)], [0, 0, 0, 0, 1, 4, 19, 22, 23, 23, 23, 23, 23])

    def test_up_to_a_size(self):
        self.assertEqual(twins(8, 3), [])
        self.assertEqual(twins(8, 4), twins(8, 8))
        self.assertEqual(twins(10, 4), [])
        for n in FAMILY_WHEELS:
            every = twins(n, n)
            for most in range(n + 1):
                self.assertEqual(twins(n, most), [pair for pair in every if len(pair[0]) <= most])

    def test_none_and_one_tone_are_no_twins(self):
        # Their counts are the same, but they have not as many tones.
        for n in FAMILY_WHEELS:
            self.assertEqual(counts(n, ()), counts(n, (0,)))
            self.assertEqual(twins(n, 0), [])
            self.assertEqual(twins(n, 1), [])

    def test_all_pairs_each_once_in_order(self):
        for n in FAMILY_WHEELS:
            expected = []
            for one, other in itertools.combinations(in_order(kinds_by_hand(n)), 2):
                if len(one) == len(other) and counts_by_hand(n, one) == counts_by_hand(n, other):
                    expected.append((one, other))
            told = twins(n, n)
            self.assertIs(type(told), list)
            self.assertTrue(all(type(pair) is tuple and len(pair) == 2 for pair in told))
            self.assertEqual(told, expected, n)
            self.assertEqual(len(set(told)), len(told))

    def test_unlike_least_forms_the_one_before_the_other(self):
        for n in (8, 10, 12):
            for one, other in twins(n, n):
                self.assertTrue(before(one, other))
                self.assertEqual((least_form(n, one), least_form(n, other)), (one, other))
                self.assertEqual(ways(n, one, other), [])
                self.assertEqual(counts(n, one), counts(n, other))

    def test_the_others_of_twins_are_twins(self):
        for n in (8, 10, 12):
            told = twins(n, n)
            for pair in told:
                rests = in_order([least_form(n, others(n, kind)) for kind in pair])
                self.assertIn(tuple(rests), told)

    def test_a_told_list_is_the_askers_own(self):
        kept = twins(10, 5)
        told = twins(10, 5)
        told.pop(0)
        told.append("more")
        self.assertEqual(twins(8, 5), [((0, 1, 2, 5), (0, 1, 3, 4))])
        self.assertEqual(twins(10, 4), [])
        self.assertEqual(twins(10, 5), kept)
        self.assertEqual(len(kept), 3)


class NothingRefused(unittest.TestCase):
    def test_sizes_somewhat_beyond_the_bounds(self):
        self.assertEqual(kinds_of(12, 13), [])
        self.assertEqual(kinds_of(12, -1), [])
        self.assertEqual(twins(12, 15), twins(12, 12))
        self.assertEqual(twins(12, -1), [])

    def test_wheels_somewhat_beyond_the_bounds(self):
        self.assertEqual(kinds_of(2, 1), [(0,)])
        self.assertEqual(kinds_of(13, 2), [(0, k) for k in range(1, 7)])
        self.assertEqual(twins(13, 3), [])

    def test_like_first_ones_in_the_order_of_the_others(self):
        # No wheel within the bounds has three unlike kinds with the same counts; one of sixteen tones has.
        told = twins(16, 6)
        first = [pair[1] for pair in told if pair[0] == (0, 1, 2, 4, 6, 9)]
        self.assertEqual(len(first), 2)
        self.assertEqual(told, sorted(told, key=lambda pair: (len(pair[0]), pair)))


if __name__ == "__main__":
    unittest.main()
