import unittest

from tests.samples import WHEELS, image_of_tones, is_change
from tests.sayings_by_hand import (
    MOST_TIMES, all_within, change_by_hand, chosen_times, image_by_hand, in_rows, layers, mirror,
    mixed_sayings, row, times, turn, undo, undone,
)
from tonemirror.sayings import altogether, depth, does
from tonemirror.wheel import back, changes, done, then

STILL = ("turn", 0)


class AsToldInPoint24(unittest.TestCase):
    def check(self, n, saying):
        told = does(n, saying)
        self.assertTrue(is_change(n, told), (n, saying, told))
        self.assertEqual(told, change_by_hand(n, saying), (n, saying))
        self.assertEqual([done(n, told, tone) for tone in range(n)], image_by_hand(n, saying), (n, saying))


class Changes(AsToldInPoint24):
    def test_ordinary(self):
        self.assertEqual(does(12, turn(5)), ("turn", 5))
        self.assertEqual(does(12, mirror(11)), ("mirror", 11))
        self.assertEqual(does(3, turn(0)), STILL)
        self.assertEqual(does(3, mirror(0)), ("mirror", 0))

    def test_a_change_does_itself(self):
        for n in WHEELS:
            for change in changes(n):
                self.assertEqual(does(n, ("change", change)), change)
                self.check(n, ("change", change))


class Rows(AsToldInPoint24):
    def test_without_sayings(self):
        for n in WHEELS:
            self.assertEqual(does(n, row()), STILL)
            self.check(n, row())
            self.assertEqual(does(n, row(row(), row())), STILL)

    def test_of_one(self):
        for n in WHEELS:
            for change in changes(n):
                self.assertEqual(does(n, row(("change", change))), change)

    def test_from_the_left(self):
        self.assertEqual(does(12, row(turn(5), mirror(3))), ("mirror", 10))
        self.assertEqual(does(12, row(mirror(3), turn(5))), ("mirror", 8))
        self.assertEqual(does(12, row(mirror(3), mirror(5))), ("turn", 2))
        self.assertEqual(does(12, row(turn(11), turn(11))), ("turn", 10))

    def test_of_two(self):
        for n in WHEELS:
            for one in changes(n):
                for other in changes(n):
                    saying = row(("change", one), ("change", other))
                    self.assertEqual(does(n, saying), then(n, one, other))

    def test_of_several(self):
        self.assertEqual(does(12, row(turn(1), mirror(4), turn(2))), ("mirror", 5))
        for n in WHEELS:
            self.check(n, row(turn(1), mirror(n - 1), turn(2), mirror(1)))
            self.check(n, row(mirror(0), turn(n - 1), mirror(2), turn(1), mirror(1), turn(1)))
            self.check(n, row(turn(1), row(mirror(2), row(), turn(1)), row(mirror(1))))


class Times(AsToldInPoint24):
    def test_nought_times(self):
        for n in WHEELS:
            for change in changes(n):
                self.assertEqual(does(n, times(("change", change), 0)), STILL)
            self.assertEqual(does(n, times(row(turn(1), mirror(2)), 0)), STILL)
            self.assertEqual(does(n, times(row(), 0)), STILL)

    def test_once(self):
        for n in WHEELS:
            for change in changes(n):
                self.assertEqual(does(n, times(("change", change), 1)), change)

    def test_ordinary(self):
        self.assertEqual(does(12, times(turn(5), 3)), ("turn", 3))
        self.assertEqual(does(12, times(turn(5), 12)), STILL)
        self.assertEqual(does(12, times(mirror(5), 2)), STILL)
        self.assertEqual(does(12, times(mirror(5), 3)), ("mirror", 5))

    def test_small_numbers_one_by_one(self):
        for n in WHEELS:
            for change in changes(n):
                by_steps = STILL
                for many in range(2 * n + 2):
                    self.assertEqual(does(n, times(("change", change), many)), by_steps, (n, change, many))
                    by_steps = then(n, by_steps, change)

    def test_large_numbers(self):
        self.assertEqual(does(12, times(turn(1), MOST_TIMES)), ("turn", 4))
        self.assertEqual(does(12, times(turn(1), MOST_TIMES - 1)), ("turn", 3))
        self.assertEqual(does(10, times(turn(3), MOST_TIMES)), STILL)
        self.assertEqual(does(7, times(turn(1), MOST_TIMES)), ("turn", pow(10, 30, 7)))
        self.assertEqual(does(12, times(mirror(7), MOST_TIMES)), STILL)
        self.assertEqual(does(12, times(mirror(7), MOST_TIMES - 1)), ("mirror", 7))
        for n in WHEELS:
            for many in chosen_times(n):
                self.check(n, times(turn(1), many))
                self.check(n, times(turn(n - 1), many))
                self.check(n, times(mirror(1), many))
                self.check(n, times(row(turn(2), mirror(1), mirror(0)), many))

    def test_times_of_times(self):
        self.assertEqual(does(12, times(times(turn(1), 3), 2)), ("turn", 6))
        for n in WHEELS:
            self.check(n, times(times(turn(1), MOST_TIMES), MOST_TIMES))
            self.check(n, times(times(mirror(1), 3), 5))


class Undos(AsToldInPoint24):
    def test_ordinary(self):
        self.assertEqual(does(12, undo(turn(5))), ("turn", 7))
        self.assertEqual(does(12, undo(turn(0))), STILL)
        self.assertEqual(does(12, undo(mirror(5))), ("mirror", 5))
        self.assertEqual(does(12, undo(row())), STILL)
        self.assertEqual(does(12, undo(row(turn(5), mirror(3)))), ("mirror", 10))
        self.assertEqual(does(12, undo(times(turn(5), 3))), ("turn", 9))
        self.assertEqual(does(12, times(undo(turn(5)), 3)), ("turn", 9))

    def test_leads_back(self):
        for n in WHEELS:
            for change in changes(n):
                self.assertEqual(does(n, undo(("change", change))), back(n, change))
            for saying in mixed_sayings(n, 10):
                self.assertEqual(does(n, row(saying, undo(saying))), STILL)
                self.assertEqual(does(n, row(undo(saying), saying)), STILL)
                self.assertEqual(does(n, undone(saying, 2)), does(n, saying))


class SeveralWithinOneAnother(AsToldInPoint24):
    def test_mixed_sayings_of_every_wheel(self):
        for n in WHEELS:
            for saying in mixed_sayings(n):
                self.check(n, saying)

    def test_the_mixed_sayings_reach_the_bounds(self):
        chosen = [saying for n in WHEELS for saying in mixed_sayings(n)]
        self.assertEqual({layers(saying) for saying in chosen}, set(range(1, 9)))
        self.assertEqual(max(len(all_within(saying)) for saying in chosen), 60)

    def test_up_to_eight(self):
        for n in WHEELS:
            for many in range(8):
                for change in (turn(1), mirror(1)):
                    self.check(n, undone(change, many))
                    self.check(n, in_rows(change, many))
            saying = times(undo(row(times(row(undo(row(turn(1), mirror(2)))), 5), turn(1))), MOST_TIMES - 1)
            self.assertEqual(layers(saying), 8)
            self.check(n, saying)
            deep_times = turn(1)
            for many in (2, 3, 5, 7, 11, 13, 17):
                deep_times = times(deep_times, many)
            self.assertEqual(layers(deep_times), 8)
            self.check(n, deep_times)
            self.assertEqual(does(n, deep_times), ("turn", 510510 % n))

    def test_sixty_altogether(self):
        for n in WHEELS:
            wide = row(*[turn(k % n) if k % 3 else mirror(k % n) for k in range(59)])
            self.assertEqual(len(all_within(wide)), 60)
            self.check(n, wide)
            paired = row(*[times(mirror(k % n), 3) for k in range(29)] + [row()])
            self.assertEqual(len(all_within(paired)), 60)
            self.check(n, paired)


class HowManyAndHowDeep(unittest.TestCase):
    def test_ordinary(self):
        self.assertEqual((depth(turn(1)), altogether(turn(1))), (1, 1))
        self.assertEqual((depth(row()), altogether(row())), (1, 1))
        self.assertEqual((depth(row(turn(1), turn(1))), altogether(row(turn(1), turn(1)))), (2, 3))
        self.assertEqual((depth(times(undo(turn(5)), 3)), altogether(times(undo(turn(5)), 3))), (3, 3))

    def test_mixed_sayings(self):
        for n in WHEELS:
            for saying in mixed_sayings(n):
                self.assertEqual(depth(saying), layers(saying))
                self.assertEqual(altogether(saying), len(all_within(saying)))


class NothingRefused(unittest.TestCase):
    def test_somewhat_beyond_the_bounds(self):
        for n in WHEELS:
            self.assertEqual(does(n, undone(turn(1), 20)), ("turn", 1))
            self.assertEqual(does(n, in_rows(mirror(1), 20)), ("mirror", 1))
            self.assertEqual(does(n, row(*[turn(1)] * 75)), ("turn", 75 % n))
            self.assertEqual(does(n, times(turn(1), MOST_TIMES + 1)), ("turn", (MOST_TIMES + 1) % n))
            self.assertEqual(does(n, times(mirror(1), MOST_TIMES + 1)), ("mirror", 1))
            self.assertTrue(is_change(n, does(n, times(turn(1), -1))))
            self.assertTrue(is_change(n, does(n, times(mirror(1), -1))))

    def test_numbers_beyond_the_wheel(self):
        for n in WHEELS:
            for saying in (turn(n + 1), turn(-1), mirror(n + 2), mirror(-1)):
                for asked in (saying, row(saying), undo(saying), times(saying, 1), times(saying, 3)):
                    told = does(n, asked)
                    self.assertTrue(is_change(n, told), (n, asked, told))
                    self.assertEqual(image_of_tones(n, told), image_by_hand(n, asked))

    def test_wheels_somewhat_beyond_the_bounds(self):
        for n in [1, 2, 25, 30]:
            self.assertEqual(does(n, row(turn(0), mirror(n - 1), undo(turn(n - 1)))), ("mirror", 0))
            self.assertEqual(does(n, times(mirror(0), 0)), STILL)


if __name__ == "__main__":
    unittest.main()
