import unittest

from tests.samples import SMALL_WHEELS, WHEELS, all_crowds, is_change, is_crowd, some_crowds
from tonemirror.crowds import changed
from tonemirror.kinds import before, images, least_form, ways
from tonemirror.wheel import changes


def comes_before(one, other):
    """Point 8's order, read place by place."""
    if len(one) != len(other):
        return len(one) < len(other)
    for a, b in zip(one, other):
        if a != b:
            return a < b
    return False


class Before(unittest.TestCase):
    def test_fewer_tones_come_first(self):
        self.assertIs(before((11,), (0, 1)), True)
        self.assertIs(before((0, 1), (11,)), False)
        self.assertIs(before((0, 1), (0, 1, 2)), True)
        self.assertIs(before((0, 1, 2), (1, 2)), False)

    def test_as_many_tones_the_first_unlike_place_tells(self):
        self.assertIs(before((0, 3, 7), (0, 4, 5)), True)
        self.assertIs(before((0, 4, 5), (0, 3, 7)), False)
        self.assertIs(before((2, 9), (10, 11)), True)
        self.assertIs(before((10, 11), (2, 9)), False)

    def test_none_comes_before_all_but_itself(self):
        self.assertIs(before((), ()), False)
        self.assertIs(before((), (0,)), True)
        self.assertIs(before((0,), ()), False)

    def test_itself_comes_not_before_itself(self):
        for n in WHEELS:
            for crowd in some_crowds(n):
                self.assertIs(before(crowd, crowd), False)

    def test_any_two_crowds(self):
        for n in (3, 6, 7, 12, 24):
            crowds = all_crowds(n) if n in SMALL_WHEELS else some_crowds(n)
            for one in crowds:
                for other in crowds:
                    self.assertIs(before(one, other), comes_before(one, other), (one, other))


class Ways(unittest.TestCase):
    def test_ordinary(self):
        self.assertEqual(ways(12, (0, 4, 7), (2, 6, 9)), [("turn", 2)])
        self.assertEqual(ways(12, (0, 4, 7), (0, 3, 7)), [("mirror", 7)])
        self.assertEqual(ways(7, (0, 1, 3), (0, 1, 5)), [("mirror", 1)])
        self.assertEqual(ways(5, (0, 1), (2, 3)), [("turn", 2), ("mirror", 3)])

    def test_none_of_them(self):
        self.assertEqual(ways(12, (0, 4, 7), (0, 4, 8)), [])
        self.assertEqual(ways(12, (0, 1, 4, 6), (0, 1, 3, 7)), [])

    def test_crowds_of_unlike_sizes(self):
        self.assertEqual(ways(12, (0, 4, 7), (0, 4)), [])
        self.assertEqual(ways(12, (0, 4), (0, 4, 7)), [])
        self.assertEqual(ways(3, (), (0,)), [])
        for n in WHEELS:
            self.assertEqual(ways(n, (), tuple(range(n))), [])
            self.assertEqual(ways(n, tuple(range(n)), ()), [])

    def test_none_and_all_by_every_change(self):
        for n in WHEELS:
            self.assertEqual(ways(n, (), ()), changes(n))
            self.assertEqual(ways(n, tuple(range(n)), tuple(range(n))), changes(n))

    def test_a_crowd_that_several_changes_make_itself(self):
        self.assertEqual(
            ways(12, (0, 4, 8), (0, 4, 8)),
            [("turn", 0), ("turn", 4), ("turn", 8), ("mirror", 0), ("mirror", 4), ("mirror", 8)],
        )
        self.assertEqual(ways(12, (0, 4, 7), (0, 4, 7)), [("turn", 0)])
        self.assertEqual(ways(3, (1,), (1,)), [("turn", 0), ("mirror", 2)])
        self.assertEqual(
            ways(24, (0, 12), (6, 18)),
            [("turn", 6), ("turn", 18), ("mirror", 6), ("mirror", 18)],
        )
        # By turns alone, without a mirror.
        self.assertEqual(ways(12, (0, 1, 3, 6, 7, 9), (0, 1, 3, 6, 7, 9)), [("turn", 0), ("turn", 6)])

    def test_just_those_that_do_it_in_order(self):
        for n in WHEELS:
            crowds = all_crowds(n) if n <= 5 else some_crowds(n)[::3]
            for one in crowds:
                for other in crowds + [changed(n, one, ("turn", n - 1)), changed(n, one, ("mirror", 2))]:
                    told = ways(n, one, other)
                    self.assertIs(type(told), list)
                    self.assertTrue(all(is_change(n, change) for change in told))
                    places = [changes(n).index(change) for change in told]
                    self.assertEqual(places, sorted(set(places)))
                    for change in changes(n):
                        self.assertEqual(change in told, changed(n, one, change) == other)

    def test_a_told_list_is_the_askers_own(self):
        kept = ways(12, (0, 6), (0, 6))
        told = ways(12, (0, 6), (0, 6))
        told.clear()
        self.assertEqual(ways(12, (0, 6), (0, 6)), kept)
        self.assertEqual(len(kept), 4)


class Images(unittest.TestCase):
    def test_ordinary(self):
        self.assertEqual(images(12, (0, 4, 8)), [(0, 4, 8), (1, 5, 9), (2, 6, 10), (3, 7, 11)])
        self.assertEqual(images(5, (1, 3)), [(0, 2), (0, 3), (1, 3), (1, 4), (2, 4)])
        self.assertEqual(images(3, (2,)), [(0,), (1,), (2,)])
        told = images(12, (0, 4, 7))
        self.assertEqual(len(told), 24)
        self.assertEqual(told[:4], [(0, 3, 7), (0, 3, 8), (0, 4, 7), (0, 4, 9)])

    def test_none_and_all_have_one_image(self):
        for n in WHEELS:
            self.assertEqual(images(n, ()), [()])
            self.assertEqual(images(n, tuple(range(n))), [tuple(range(n))])

    def test_each_once_in_order(self):
        for n in WHEELS:
            for crowd in some_crowds(n):
                told = images(n, crowd)
                self.assertIs(type(told), list)
                self.assertTrue(all(is_crowd(n, image) for image in told))
                for one, other in zip(told, told[1:]):
                    self.assertTrue(comes_before(one, other))

    def test_just_the_crowds_that_are_alike(self):
        for n in SMALL_WHEELS:
            crowds = all_crowds(n)
            for crowd in crowds:
                alike = [other for other in crowds if any(changed(n, crowd, c) == other for c in changes(n))]
                self.assertEqual(sorted(images(n, crowd)), sorted(alike))

    def test_as_many_as_twice_the_wheel_by_the_ways_to_itself(self):
        for n in WHEELS:
            for crowd in all_crowds(n) if n in SMALL_WHEELS else some_crowds(n):
                self.assertEqual(len(images(n, crowd)) * len(ways(n, crowd, crowd)), 2 * n, (n, crowd))

    def test_a_told_list_is_the_askers_own(self):
        kept = images(12, (0, 6))
        told = images(12, (0, 6))
        told[0] = "another"
        told.pop()
        self.assertEqual(images(12, (0, 6)), kept)
        self.assertEqual(least_form(12, (0, 6)), (0, 6))
        self.assertEqual(len(kept), 6)


class LeastForm(unittest.TestCase):
    def test_ordinary(self):
        self.assertEqual(least_form(12, (0, 4, 7)), (0, 3, 7))
        self.assertEqual(least_form(12, (2, 7, 11)), (0, 3, 7))
        self.assertEqual(least_form(7, (2, 4, 5)), (0, 1, 3))
        self.assertEqual(least_form(12, (0, 2, 4, 5, 7, 9, 11)), (0, 1, 3, 5, 6, 8, 10))

    def test_none_all_and_the_edges_of_the_wheels(self):
        for n in WHEELS:
            self.assertEqual(least_form(n, ()), ())
            self.assertEqual(least_form(n, tuple(range(n))), tuple(range(n)))
            self.assertEqual(least_form(n, (n - 1,)), (0,))
        self.assertEqual(least_form(3, (1, 2)), (0, 1))
        self.assertEqual(least_form(24, (11, 23)), (0, 12))

    def test_none_of_the_images_comes_before_it(self):
        for n in WHEELS:
            for crowd in some_crowds(n):
                told = least_form(n, crowd)
                self.assertTrue(is_crowd(n, told))
                made = [changed(n, crowd, change) for change in changes(n)]
                self.assertIn(told, made)
                self.assertFalse(any(comes_before(image, told) for image in made))

    def test_number_of_kinds_of_whole_wheels(self):
        # The well known numbers of necklaces of two colours that may be turned over.
        for n, many in ((3, 4), (4, 6), (5, 8), (6, 13), (7, 18), (8, 30), (9, 46), (10, 78)):
            self.assertEqual(len({least_form(n, crowd) for crowd in all_crowds(n)}), many)


class LikeAndUnlike(unittest.TestCase):
    def test_ways_or_unlike_least_forms_for_all_pairs_of_small_wheels(self):
        for n in (3, 4, 5, 6):
            crowds = all_crowds(n)
            for one in crowds:
                for other in crowds:
                    alike = least_form(n, one) == least_form(n, other)
                    self.assertEqual(ways(n, one, other) != [], alike, (n, one, other))

    def test_ways_or_unlike_least_forms_for_some_pairs_of_all_wheels(self):
        for n in WHEELS:
            crowds = some_crowds(n)[::4]
            for one in crowds:
                for other in crowds:
                    alike = least_form(n, one) == least_form(n, other)
                    self.assertEqual(ways(n, one, other) != [], alike, (n, one, other))

    def test_all_alike_crowds_have_one_least_form(self):
        for n in WHEELS:
            for crowd in some_crowds(n)[::3]:
                least = least_form(n, crowd)
                for change in changes(n):
                    self.assertEqual(least_form(n, changed(n, crowd, change)), least)

    def test_the_same_counts_are_not_enough(self):
        # Both have every distance once (the half way round, too), and no change leads one to the other.
        self.assertEqual(ways(12, (0, 1, 4, 6), (0, 1, 3, 7)), [])
        self.assertNotEqual(least_form(12, (0, 1, 4, 6)), least_form(12, (0, 1, 3, 7)))


class NothingRefused(unittest.TestCase):
    def test_wheels_somewhat_beyond_the_bounds(self):
        self.assertEqual(ways(2, (0,), (1,)), [("turn", 1), ("mirror", 1)])
        self.assertEqual(images(2, (1,)), [(0,), (1,)])
        self.assertEqual(least_form(30, (10, 20, 29)), (0, 9, 19))


if __name__ == "__main__":
    unittest.main()
