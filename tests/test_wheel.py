import unittest

from tests.samples import WHEELS, is_change, is_whole
from tonemirror.wheel import back, changes, distance, done, move, step, then


def walked(n, one, other, by):
    """How many single steps lead from the one to the other, walked tone by tone."""
    many = 0
    while one != other:
        one = one + by
        if one == n:
            one = 0
        if one == -1:
            one = n - 1
        many += 1
    return many


def each_two_tones(n):
    return [(one, other) for one in range(n) for other in range(n)]


class Steps(unittest.TestCase):
    def test_ordinary(self):
        self.assertEqual(step(12, 0, 7), 7)
        self.assertEqual(step(12, 7, 0), 5)
        self.assertEqual(step(12, 11, 0), 1)
        self.assertEqual(step(7, 5, 2), 4)

    def test_widest_and_smallest_wheel(self):
        self.assertEqual([step(3, 2, other) for other in range(3)], [1, 2, 0])
        self.assertEqual(step(24, 23, 0), 1)
        self.assertEqual(step(24, 0, 23), 23)

    def test_is_what_is_walked_upwards(self):
        for n in WHEELS:
            for one, other in each_two_tones(n):
                told = step(n, one, other)
                self.assertTrue(is_whole(told))
                self.assertEqual(told, walked(n, one, other, 1), (n, one, other))


class Distances(unittest.TestCase):
    def test_ordinary(self):
        self.assertEqual(distance(12, 0, 7), 5)
        self.assertEqual(distance(12, 7, 0), 5)
        self.assertEqual(distance(7, 1, 4), 3)
        self.assertEqual(distance(7, 0, 4), 3)

    def test_half_way_round(self):
        self.assertEqual(distance(12, 2, 8), 6)
        self.assertEqual(distance(24, 18, 6), 12)

    def test_is_the_shorter_walk(self):
        for n in WHEELS:
            for one, other in each_two_tones(n):
                told = distance(n, one, other)
                self.assertTrue(is_whole(told))
                shorter = min(walked(n, one, other, 1), walked(n, one, other, -1))
                self.assertEqual(told, shorter, (n, one, other))

    def test_a_tone_and_itself(self):
        for n in WHEELS:
            for tone in range(n):
                self.assertEqual((step(n, tone, tone), distance(n, tone, tone), move(n, tone, tone)), (0, 0, 0))


class Moves(unittest.TestCase):
    def test_ordinary(self):
        self.assertEqual(move(12, 0, 5), 5)
        self.assertEqual(move(12, 0, 7), -5)
        self.assertEqual(move(12, 11, 1), 2)
        self.assertEqual(move(12, 1, 11), -2)

    def test_odd_wheels_have_no_half_way(self):
        self.assertEqual([move(7, 0, other) for other in range(7)], [0, 1, 2, 3, -3, -2, -1])
        self.assertEqual([move(3, 0, other) for other in range(3)], [0, 1, -1])

    def test_half_way_round_is_upwards_from_either(self):
        for n in WHEELS:
            if n % 2 == 0:
                for tone in range(n // 2):
                    self.assertEqual(move(n, tone, tone + n // 2), n // 2)
                    self.assertEqual(move(n, tone + n // 2, tone), n // 2)

    def test_goes_the_shorter_way(self):
        for n in WHEELS:
            for one, other in each_two_tones(n):
                told = move(n, one, other)
                self.assertTrue(is_whole(told))
                upwards = walked(n, one, other, 1)
                downwards = walked(n, one, other, -1)
                self.assertEqual(told, upwards if upwards <= downwards else -downwards, (n, one, other))


class ChangesDone(unittest.TestCase):
    def test_turns(self):
        self.assertEqual(done(12, ("turn", 5), 3), 8)
        self.assertEqual(done(12, ("turn", 5), 9), 2)
        self.assertEqual(done(3, ("turn", 2), 2), 1)
        self.assertEqual(done(24, ("turn", 23), 23), 22)

    def test_mirrors(self):
        self.assertEqual(done(12, ("mirror", 7), 4), 3)
        self.assertEqual(done(12, ("mirror", 7), 7), 0)
        self.assertEqual(done(12, ("mirror", 0), 1), 11)
        self.assertEqual(done(3, ("mirror", 1), 2), 2)
        self.assertEqual(done(24, ("mirror", 0), 23), 1)

    def test_all_tones_of_all_wheels(self):
        for n in WHEELS:
            for k in range(n):
                for tone in range(n):
                    turned = done(n, ("turn", k), tone)
                    mirrored = done(n, ("mirror", k), tone)
                    self.assertTrue(is_whole(turned) and is_whole(mirrored))
                    self.assertEqual(turned, (list(range(n)) * 2)[tone + k])
                    # From k, as many tones downwards as the tone is above 0.
                    self.assertEqual(mirrored, (list(range(n)) * 2)[n + k - tone])


class ChangesListed(unittest.TestCase):
    def test_the_smallest_wheel(self):
        self.assertEqual(
            changes(3),
            [("turn", 0), ("turn", 1), ("turn", 2), ("mirror", 0), ("mirror", 1), ("mirror", 2)],
        )

    def test_turns_then_mirrors_rising(self):
        for n in WHEELS:
            told = changes(n)
            self.assertIs(type(told), list)
            self.assertEqual(len(told), 2 * n)
            self.assertTrue(all(is_change(n, change) for change in told))
            self.assertEqual([change[1] for change in told], list(range(n)) * 2)
            self.assertEqual([change[0] for change in told], ["turn"] * n + ["mirror"] * n)

    def test_a_told_list_is_the_askers_own(self):
        kept = changes(5)
        told = changes(5)
        told.reverse()
        told.append("more")
        self.assertEqual(changes(5), kept)
        self.assertEqual(kept[0], ("turn", 0))
        self.assertEqual(len(kept), 10)


class ChangesTogether(unittest.TestCase):
    def test_each_sort_with_each(self):
        self.assertEqual(then(12, ("turn", 5), ("turn", 9)), ("turn", 2))
        self.assertEqual(then(12, ("turn", 5), ("mirror", 3)), ("mirror", 10))
        self.assertEqual(then(12, ("mirror", 5), ("turn", 9)), ("mirror", 2))
        self.assertEqual(then(12, ("mirror", 5), ("mirror", 3)), ("turn", 10))
        self.assertEqual(then(7, ("turn", 2), ("mirror", 1)), ("mirror", 6))
        self.assertEqual(then(7, ("mirror", 1), ("turn", 2)), ("mirror", 3))

    def test_does_the_same_as_the_first_and_then_the_second(self):
        for n in WHEELS:
            for one in changes(n):
                for other in changes(n):
                    told = then(n, one, other)
                    self.assertTrue(is_change(n, told))
                    one_by_one = [done(n, other, done(n, one, tone)) for tone in range(n)]
                    self.assertEqual([done(n, told, tone) for tone in range(n)], one_by_one, (n, one, other))

    def test_only_one_change_does_the_same(self):
        for n in WHEELS:
            effects = [tuple(done(n, change, tone) for tone in range(n)) for change in changes(n)]
            self.assertEqual(len(set(effects)), 2 * n)


class ChangesLedBack(unittest.TestCase):
    def test_ordinary(self):
        self.assertEqual(back(12, ("turn", 5)), ("turn", 7))
        self.assertEqual(back(12, ("mirror", 5)), ("mirror", 5))
        self.assertEqual(back(7, ("turn", 6)), ("turn", 1))

    def test_half_way_round_and_nought(self):
        self.assertEqual(back(24, ("turn", 12)), ("turn", 12))
        for n in WHEELS:
            self.assertEqual(back(n, ("turn", 0)), ("turn", 0))
            self.assertEqual(back(n, ("mirror", 0)), ("mirror", 0))

    def test_leads_every_tone_back_and_is_led_back(self):
        for n in WHEELS:
            for change in changes(n):
                told = back(n, change)
                self.assertTrue(is_change(n, told))
                for tone in range(n):
                    self.assertEqual(done(n, told, done(n, change, tone)), tone)
                    self.assertEqual(done(n, change, done(n, told, tone)), tone)


class NothingRefused(unittest.TestCase):
    def test_wheels_somewhat_beyond_the_bounds(self):
        for n in (1, 2, 25, 30):
            self.assertEqual(step(n, n - 1, 0), 1 % n)
            self.assertEqual(distance(n, 0, n - 1), 1 % n)
            self.assertEqual(move(n, 0, n // 2), n // 2)
            self.assertEqual(len(changes(n)), 2 * n)

    def test_tones_and_changes_somewhat_beyond_the_wheel(self):
        self.assertEqual(step(12, -1, 14), 3)
        self.assertEqual(done(12, ("turn", 14), -3), 11)
        self.assertEqual(done(12, ("mirror", -2), 3), 7)
        self.assertEqual(then(12, ("turn", 14), ("mirror", 13)), ("mirror", 11))
        self.assertEqual(back(12, ("turn", 14)), ("turn", 10))
        self.assertEqual(back(12, ("mirror", 14)), ("mirror", 2))


if __name__ == "__main__":
    unittest.main()
