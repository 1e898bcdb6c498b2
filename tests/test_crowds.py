import unittest

from tests.samples import SMALL_WHEELS, WHEELS, all_crowds, is_crowd, is_whole, some_crowds
from tonemirror.crowds import changed, common, counts, crowd_of, others, sums
from tonemirror.wheel import changes, done


class CrowdsMade(unittest.TestCase):
    def test_ordinary(self):
        self.assertEqual(crowd_of(12, [7, 0, 4]), (0, 4, 7))
        self.assertEqual(crowd_of(7, [6, 2, 3]), (2, 3, 6))

    def test_of_an_empty_list(self):
        for n in WHEELS:
            self.assertEqual(crowd_of(n, []), ())

    def test_numbers_below_nought(self):
        self.assertEqual(crowd_of(12, [-1, -12, -13, -5]), (0, 7, 11))
        self.assertEqual(crowd_of(3, [-1]), (2,))
        self.assertEqual(crowd_of(24, [-24, -25, -1]), (0, 23))

    def test_numbers_far_beyond_the_wheel(self):
        sixty_figures = 10 ** 59
        for n in WHEELS:
            multiple = sixty_figures - sixty_figures % n
            self.assertEqual(crowd_of(n, [multiple + 1, multiple, 1 - multiple]), (0, 1))
        self.assertEqual(crowd_of(10, [int("9" * 60), -int("9" * 60)]), (1, 9))

    def test_the_same_rest_more_than_once(self):
        self.assertEqual(crowd_of(12, [3, 15, -9, 3, 27]), (3,))
        self.assertEqual(crowd_of(5, list(range(-500, 0))), (0, 1, 2, 3, 4))

    def test_is_rising_for_every_order_of_the_list(self):
        for n in WHEELS:
            for crowd in some_crowds(n):
                for told in (crowd_of(n, list(crowd)), crowd_of(n, list(crowd)[::-1])):
                    self.assertTrue(is_crowd(n, told))
                    self.assertEqual(told, crowd)

    def test_all_tones(self):
        for n in WHEELS:
            self.assertEqual(crowd_of(n, list(range(2 * n, n, -1))), tuple(range(n)))

    def test_the_list_handed_in_stays_and_is_not_kept(self):
        numbers = [14, -3, 2, 2]
        told = crowd_of(12, numbers)
        self.assertEqual(numbers, [14, -3, 2, 2])
        numbers.append(5)
        self.assertEqual(told, (2, 9))
        self.assertEqual(crowd_of(12, numbers), (2, 5, 9))


class CrowdsChanged(unittest.TestCase):
    def test_ordinary(self):
        self.assertEqual(changed(12, (0, 4, 7), ("turn", 7)), (2, 7, 11))
        self.assertEqual(changed(12, (0, 4, 7), ("mirror", 7)), (0, 3, 7))
        self.assertEqual(changed(7, (0, 1, 3), ("turn", 5)), (1, 5, 6))
        self.assertEqual(changed(7, (0, 1, 3), ("mirror", 1)), (0, 1, 5))
        self.assertEqual(changed(3, (0, 1), ("mirror", 0)), (0, 2))

    def test_none_and_all_stay_as_they_are(self):
        for n in WHEELS:
            for change in changes(n):
                self.assertEqual(changed(n, (), change), ())
                self.assertEqual(changed(n, tuple(range(n)), change), tuple(range(n)))

    def test_tone_by_tone(self):
        for n in WHEELS:
            for crowd in some_crowds(n):
                for change in changes(n):
                    told = changed(n, crowd, change)
                    self.assertTrue(is_crowd(n, told))
                    self.assertEqual(set(told), {done(n, change, tone) for tone in crowd})


class OthersAndCommon(unittest.TestCase):
    def test_others(self):
        self.assertEqual(others(12, (0, 2, 4, 5, 7, 9, 11)), (1, 3, 6, 8, 10))
        self.assertEqual(others(3, (1,)), (0, 2))

    def test_others_of_none_and_of_all(self):
        for n in WHEELS:
            self.assertEqual(others(n, ()), tuple(range(n)))
            self.assertEqual(others(n, tuple(range(n))), ())

    def test_others_are_just_the_tones_outside(self):
        for n in WHEELS:
            for crowd in some_crowds(n):
                told = others(n, crowd)
                self.assertTrue(is_crowd(n, told))
                self.assertEqual(sorted(told + crowd), list(range(n)))

    def test_common(self):
        self.assertEqual(common((0, 4, 7), (0, 3, 7)), (0, 7))
        self.assertEqual(common((0, 4, 7), (1, 2)), ())
        self.assertEqual(common((1, 2), (0, 1, 2, 3)), (1, 2))
        self.assertEqual(common((0, 1, 2, 3), (3,)), (3,))

    def test_common_with_none_all_itself_and_the_others(self):
        for n in WHEELS:
            for crowd in some_crowds(n):
                self.assertEqual(common(crowd, ()), ())
                self.assertEqual(common((), crowd), ())
                self.assertEqual(common(crowd, tuple(range(n))), crowd)
                self.assertEqual(common(tuple(range(n)), crowd), crowd)
                self.assertEqual(common(crowd, crowd), crowd)
                self.assertEqual(common(crowd, others(n, crowd)), ())

    def test_common_is_what_is_in_both(self):
        for n in WHEELS:
            for one in some_crowds(n):
                for other in some_crowds(n):
                    told = common(one, other)
                    self.assertTrue(is_crowd(n, told))
                    self.assertEqual(set(told), set(one) & set(other))


class Counts(unittest.TestCase):
    def test_ordinary(self):
        self.assertEqual(counts(12, (0, 4, 7)), (0, 0, 1, 1, 1, 0))
        self.assertEqual(counts(12, (0, 2, 4, 5, 7, 9, 11)), (2, 5, 4, 3, 6, 1))
        self.assertEqual(counts(7, (0, 1, 3)), (1, 1, 1))
        self.assertEqual(counts(4, (1, 3)), (0, 1))

    def test_smallest_and_widest_wheel(self):
        self.assertEqual(counts(3, (0, 1, 2)), (3,))
        self.assertEqual(counts(3, (0, 2)), (1,))
        self.assertEqual(counts(24, tuple(range(24))), (24,) * 11 + (12,))
        self.assertEqual(counts(24, (0, 6, 12, 18)), (0, 0, 0, 0, 0, 4, 0, 0, 0, 0, 0, 2))

    def test_none_and_one_tone(self):
        for n in WHEELS:
            self.assertEqual(counts(n, ()), (0,) * (n // 2))
            self.assertEqual(counts(n, (n - 1,)), (0,) * (n // 2))

    def test_all_tones(self):
        for n in WHEELS:
            expected = [n] * (n // 2)
            if n % 2 == 0:
                expected[-1] = n // 2
            self.assertEqual(counts(n, tuple(range(n))), tuple(expected))

    def test_each_two_tones_are_counted_once(self):
        for n in WHEELS:
            for crowd in some_crowds(n):
                expected = [0] * (n // 2)
                for a in crowd:
                    for b in crowd:
                        if a < b:
                            expected[min(b - a, n - b + a) - 1] += 1
                told = counts(n, crowd)
                self.assertIs(type(told), tuple)
                self.assertTrue(all(is_whole(number) for number in told))
                self.assertEqual(told, tuple(expected), (n, crowd))


class Sums(unittest.TestCase):
    def test_ordinary(self):
        self.assertEqual(sums(12, (0, 4, 7)), (1, 0, 1, 0, 2, 0, 0, 2, 1, 0, 0, 2))
        self.assertEqual(sums(7, (1, 5)), (0, 0, 1, 1, 0, 0, 2))
        self.assertEqual(sums(4, (1, 3)), (2, 0, 2, 0))

    def test_smallest_and_widest_wheel(self):
        self.assertEqual(sums(3, (0, 2)), (1, 1, 2))
        self.assertEqual(sums(24, (23,)), (0,) * 22 + (1, 0))

    def test_none_and_all(self):
        for n in WHEELS:
            self.assertEqual(sums(n, ()), (0,) * n)
            self.assertEqual(sums(n, tuple(range(n))), (n,) * n)

    def test_every_pair_both_ways_and_each_tone_with_itself(self):
        for n in WHEELS:
            for crowd in some_crowds(n):
                expected = [0] * n
                for a in crowd:
                    expected[2 * a - n if 2 * a >= n else 2 * a] += 1
                    for b in crowd:
                        if a < b:
                            expected[a + b - n if a + b >= n else a + b] += 2
                told = sums(n, crowd)
                self.assertIs(type(told), tuple)
                self.assertTrue(all(is_whole(number) for number in told))
                self.assertEqual(told, tuple(expected), (n, crowd))


class TonesInCommonWithItselfChanged(unittest.TestCase):
    def crowds(self):
        for n in WHEELS:
            for crowd in all_crowds(n) if n in SMALL_WHEELS else some_crowds(n):
                yield n, crowd

    def test_turned_as_the_counts_tell(self):
        for n, crowd in self.crowds():
            told = counts(n, crowd)
            for k in range(1, n):
                shared = len(common(crowd, changed(n, crowd, ("turn", k))))
                expected = told[min(k, n - k) - 1]
                if 2 * k == n:
                    expected *= 2
                self.assertEqual(shared, expected, (n, crowd, k))

    def test_mirrored_as_the_sums_tell(self):
        for n, crowd in self.crowds():
            told = sums(n, crowd)
            for k in range(n):
                shared = len(common(crowd, changed(n, crowd, ("mirror", k))))
                self.assertEqual(shared, told[k], (n, crowd, k))


class NothingRefused(unittest.TestCase):
    def test_wheels_somewhat_beyond_the_bounds(self):
        for n in (1, 2, 25, 30):
            whole = tuple(range(n))
            self.assertEqual(crowd_of(n, list(range(-n, n))), whole)
            self.assertEqual(changed(n, whole, ("mirror", 1)), whole)
            self.assertEqual(others(n, ()), whole)
            self.assertEqual(len(counts(n, whole)), n // 2)
            self.assertEqual(sums(n, whole), (n,) * n)


if __name__ == "__main__":
    unittest.main()
