import unittest

from tests.samples import (
    WHEELS, all_leadings, chosen_leadings, distance_by_hand, is_leading, is_whole, move_by_hand, some_leadings,
)
from tonemirror.leadings import cost, crossings, square, uncrossed

EVEN = [n for n in WHEELS if n % 2 == 0]
ODD = [n for n in WHEELS if n % 2 == 1]


def cost_by_hand(n, leading):
    return sum(distance_by_hand(n, a, b) for a, b in leading)


def square_by_hand(n, leading):
    return sum(move_by_hand(n, a, b) * move_by_hand(n, a, b) for a, b in leading)


def cross_by_hand(n, one, other):
    """Point 18, word by word."""
    a, b = one
    c, d = other
    apart = c - a + move_by_hand(n, c, d) - move_by_hand(n, a, b)
    return apart < 0 or apart > n


def crossings_by_hand(n, leading):
    places = range(len(leading))
    return [(i, j) for i in places for j in places if i < j and cross_by_hand(n, leading[i], leading[j])]


def go_once_round(n, leading):
    """Whether the tones come to places that rise by less than once round the wheel: no way passes another."""
    ends = [a + move_by_hand(n, a, b) for a, b in leading]
    return all(x < y for x, y in zip(ends, ends[1:])) and (not ends or ends[-1] < ends[0] + n)


class Cost(unittest.TestCase):
    def test_ordinary(self):
        self.assertEqual(cost(12, [(0, 11), (4, 5), (7, 7)]), 2)
        self.assertEqual(cost(12, [(0, 5), (4, 9), (7, 0)]), 15)
        self.assertEqual(cost(7, [(0, 4), (2, 0), (6, 1)]), 7)
        self.assertEqual(cost(3, [(0, 2), (1, 0), (2, 1)]), 3)

    def test_no_pair_and_one_pair(self):
        for n in WHEELS:
            self.assertEqual(cost(n, []), 0)
            for a in range(n):
                for b in range(n):
                    self.assertEqual(cost(n, [(a, b)]), distance_by_hand(n, a, b))

    def test_all_tones(self):
        for n in WHEELS:
            self.assertEqual(cost(n, [(tone, tone) for tone in range(n)]), 0)
            self.assertEqual(cost(n, [(tone, (tone + 1) % n) for tone in range(n)]), n)
            self.assertEqual(cost(n, [(tone, (tone - 1) % n) for tone in range(n)]), n)
            self.assertEqual(cost(n, [(tone, (tone + n // 2) % n) for tone in range(n)]), n * (n // 2))

    def test_is_the_sum_of_the_distances(self):
        for n, leading in chosen_leadings():
            told = cost(n, leading)
            self.assertTrue(is_whole(told))
            self.assertEqual(told, cost_by_hand(n, leading), (n, leading))


class Square(unittest.TestCase):
    def test_ordinary(self):
        self.assertEqual(square(12, [(0, 11), (4, 5), (7, 7)]), 2)
        self.assertEqual(square(12, [(0, 5), (4, 9), (7, 0)]), 75)
        self.assertEqual(square(7, [(0, 4), (2, 0), (6, 1)]), 17)
        self.assertEqual(square(3, [(0, 2), (1, 0), (2, 1)]), 3)

    def test_no_pair_and_one_pair(self):
        for n in WHEELS:
            self.assertEqual(square(n, []), 0)
            for a in range(n):
                for b in range(n):
                    self.assertEqual(square(n, [(a, b)]), distance_by_hand(n, a, b) ** 2)

    def test_all_tones(self):
        for n in WHEELS:
            half = n // 2
            self.assertEqual(square(n, [(tone, tone) for tone in range(n)]), 0)
            self.assertEqual(square(n, [(tone, (tone + half) % n) for tone in range(n)]), n * half * half)

    def test_is_the_sum_of_the_moves_times_themselves(self):
        for n, leading in chosen_leadings():
            told = square(n, leading)
            self.assertTrue(is_whole(told))
            self.assertEqual(told, square_by_hand(n, leading), (n, leading))


class Crossings(unittest.TestCase):
    def test_ordinary(self):
        self.assertEqual(crossings(12, [(0, 4), (4, 0)]), [(0, 1)])
        self.assertEqual(crossings(12, [(0, 0), (4, 4)]), [])
        self.assertEqual(crossings(12, [(0, 4), (4, 7), (7, 0)]), [])
        self.assertEqual(crossings(12, [(0, 7), (4, 4), (7, 0)]), [(0, 2)])
        self.assertEqual(crossings(7, [(0, 3), (1, 2), (2, 1)]), [(0, 1), (0, 2), (1, 2)])
        self.assertEqual(crossings(3, [(0, 1), (1, 0), (2, 2)]), [(0, 1)])

    def test_no_pair_and_one_pair_have_none(self):
        for n in WHEELS:
            self.assertEqual(crossings(n, []), [])
            for a in range(n):
                for b in range(n):
                    self.assertEqual(crossings(n, [(a, b)]), [])

    def test_turned_as_a_whole_nothing_crosses(self):
        for n in WHEELS:
            for k in range(n):
                self.assertEqual(crossings(n, [(tone, (tone + k) % n) for tone in range(n)]), [])

    def test_two_pairs_just_cross_and_just_do_not_below(self):
        for n in WHEELS[2:]:
            # c - a and the moves come to 1, to 0 (the second ones are the same there) and to -1.
            self.assertEqual(crossings(n, [(0, 1), (1, 2)]), [])
            self.assertEqual(crossings(n, [(0, 0), (1, 1)]), [])
            self.assertEqual(crossings(n, [(0, 1), (1, 1)]), [])
            self.assertEqual(crossings(n, [(0, 1), (1, 0)]), [(0, 1)])
            self.assertEqual(crossings(n, [(0, 2), (1, 1)]), [(0, 1)])

    def test_two_pairs_just_cross_and_just_do_not_above(self):
        for n in WHEELS[2:]:
            last = n - 1
            # c - a and the moves come to n - 1, to n (the second ones are the same there) and to n + 1.
            self.assertEqual(crossings(n, [(0, 0), (last, last)]), [])
            self.assertEqual(crossings(n, [(0, last), (last, last - 1)]), [])
            self.assertEqual(crossings(n, [(0, 0), (last, 0)]), [])
            self.assertEqual(crossings(n, [(0, last), (last, last)]), [])
            self.assertEqual(crossings(n, [(0, last), (last, 0)]), [(0, 1)])
            self.assertEqual(crossings(n, [(0, 0), (last, 1)]), [(0, 1)])

    def test_half_way_round_is_a_move_upwards(self):
        self.assertEqual(crossings(12, [(0, 6), (6, 0)]), [])
        self.assertEqual(crossings(12, [(0, 6), (3, 3)]), [(0, 1)])
        self.assertEqual(crossings(12, [(0, 6), (9, 9)]), [])
        self.assertEqual(crossings(12, [(3, 3), (6, 0)]), [])
        self.assertEqual(crossings(12, [(0, 0), (9, 3)]), [(0, 1)])
        for n in EVEN[1:]:
            half = n // 2
            # The way of 0 goes up through 1, not down through n - 1.
            self.assertEqual(crossings(n, [(0, half), (1, 1)]), [(0, 1)], n)
            self.assertEqual(crossings(n, [(0, half), (n - 1, n - 1)]), [], n)

    def test_order(self):
        self.assertEqual(
            crossings(12, [(0, 3), (1, 2), (2, 1), (3, 0)]), [(0, 1), (0, 2), (0, 3), (1, 2), (1, 3), (2, 3)]
        )
        # A crossing of a later place with a near one comes behind all of the earlier places.
        self.assertEqual(crossings(12, [(0, 3), (1, 0), (2, 5), (3, 2)]), [(0, 1), (0, 3), (2, 3)])
        for n, leading in chosen_leadings():
            told = crossings(n, leading)
            self.assertEqual(told, sorted(set(told)))

    def test_as_point_18_says(self):
        for n, leading in chosen_leadings():
            told = crossings(n, leading)
            self.assertIs(type(told), list)
            for place in told:
                self.assertIs(type(place), tuple)
                self.assertTrue(is_whole(place[0]) and is_whole(place[1]))
            self.assertEqual(told, crossings_by_hand(n, leading), (n, leading))

    def test_every_two_pairs_of_two_tones(self):
        for n in [6, 7]:
            for leading in all_leadings(n):
                if len(leading) == 2:
                    self.assertEqual(crossings(n, leading), crossings_by_hand(n, leading), (n, leading))


class Uncrossed(unittest.TestCase):
    @classmethod
    def setUpClass(cls):
        cls.asked = [(n, leading, uncrossed(n, leading)) for n, leading in chosen_leadings()]
        cls.places = [[crossings_by_hand(n, one) for one in told] for n, leading, told in cls.asked]

    def test_ordinary(self):
        self.assertEqual(uncrossed(12, [(0, 4), (4, 0)]), [[(0, 4), (4, 0)], [(0, 0), (4, 4)]])
        self.assertEqual(
            uncrossed(12, [(0, 7), (4, 4), (7, 0)]), [[(0, 7), (4, 4), (7, 0)], [(0, 0), (4, 4), (7, 7)]]
        )
        self.assertEqual(
            uncrossed(7, [(0, 3), (1, 2), (2, 1)]),
            [
                [(0, 3), (1, 2), (2, 1)],
                [(0, 2), (1, 3), (2, 1)],
                [(0, 1), (1, 3), (2, 2)],
                [(0, 1), (1, 2), (2, 3)],
            ],
        )

    def test_over_the_wheels_end(self):
        self.assertEqual(uncrossed(12, [(0, 11), (11, 0)]), [[(0, 11), (11, 0)], [(0, 0), (11, 11)]])
        self.assertEqual(uncrossed(9, [(0, 0), (8, 1)]), [[(0, 0), (8, 1)], [(0, 1), (8, 0)]])

    def test_half_way_round(self):
        self.assertEqual(uncrossed(12, [(0, 6), (3, 3)]), [[(0, 6), (3, 3)], [(0, 3), (3, 6)]])
        self.assertEqual(uncrossed(12, [(0, 6), (9, 9)]), [[(0, 6), (9, 9)]])

    def test_a_leading_without_a_crossing_is_alone(self):
        for (n, leading, told), places in zip(self.asked, self.places):
            if not places[0]:
                self.assertEqual(told, [leading])
        for n in WHEELS:
            self.assertEqual(uncrossed(n, []), [[]])
            self.assertEqual(uncrossed(n, [(n - 1, 0)]), [[(n - 1, 0)]])
            whole = [(tone, (tone + 2) % n) for tone in range(n)]
            self.assertEqual(uncrossed(n, whole), [whole])

    def test_itself_first_and_none_crosses_in_the_last(self):
        for (n, leading, told), places in zip(self.asked, self.places):
            self.assertIs(type(told), list)
            self.assertEqual(told[0], leading)
            self.assertEqual(places[-1], [], (n, leading))
            self.assertNotIn([], places[:-1], (n, leading))
            self.assertTrue(go_once_round(n, told[-1]), (n, leading))
            for one in told[:-1]:
                self.assertFalse(go_once_round(n, one), (n, leading))

    def test_each_next_one_by_exchanging_the_first_crossing(self):
        for (n, leading, told), places in zip(self.asked, self.places):
            for one, following, crossed in zip(told, told[1:], places):
                i, j = crossed[0]
                expected = list(one)
                expected[i] = (one[i][0], one[j][1])
                expected[j] = (one[j][0], one[i][1])
                self.assertEqual(following, expected, (n, leading))

    def test_every_step_leads_the_same_crowd_into_the_same(self):
        for n, leading, told in self.asked:
            for one in told:
                self.assertTrue(is_leading(n, one), (n, one))
                self.assertEqual([a for a, b in one], [a for a, b in leading])
                self.assertEqual(sorted(b for a, b in one), sorted(b for a, b in leading))

    def test_no_step_costs_more_and_each_has_a_lesser_square(self):
        for n, leading, told in self.asked:
            for one, following in zip(told, told[1:]):
                self.assertLessEqual(cost_by_hand(n, following), cost_by_hand(n, one), (n, one))
                self.assertLess(square_by_hand(n, following), square_by_hand(n, one), (n, one))
                self.assertLessEqual(cost(n, following), cost(n, one))
                self.assertLess(square(n, following), square(n, one))


class TheAskersOwn(unittest.TestCase):
    def test_what_is_handed_in_stays(self):
        for n in WHEELS:
            for leading in some_leadings(n):
                kept = list(leading)
                cost(n, leading)
                square(n, leading)
                crossings(n, leading)
                uncrossed(n, leading)
                self.assertEqual(leading, kept)

    def test_a_told_list_is_not_told_again(self):
        leading = [(0, 4), (4, 0), (7, 7)]
        first = uncrossed(12, leading)
        places = crossings(12, leading)
        self.assertEqual(first, [[(0, 4), (4, 0), (7, 7)], [(0, 0), (4, 4), (7, 7)]])
        first[0].append((9, 9))
        first[1][0] = (0, 9)
        first.clear()
        places.clear()
        self.assertEqual(leading, [(0, 4), (4, 0), (7, 7)])
        self.assertEqual(uncrossed(7, [(0, 1), (1, 0)]), [[(0, 1), (1, 0)], [(0, 0), (1, 1)]])
        self.assertEqual(uncrossed(12, leading), [[(0, 4), (4, 0), (7, 7)], [(0, 0), (4, 4), (7, 7)]])
        self.assertEqual(crossings(12, leading), [(0, 1)])

    def test_the_told_leadings_are_lists_of_their_own(self):
        for leading in ([], [(0, 0)], [(0, 4), (4, 0), (7, 7)], [(0, 3), (1, 2), (2, 1)]):
            told = uncrossed(12, leading)
            self.assertEqual(len({id(one) for one in told + [leading]}), len(told) + 1)

    def test_a_change_to_what_was_handed_in_changes_nothing_told(self):
        leading = [(0, 4), (4, 0)]
        told = uncrossed(12, leading)
        places = crossings(12, leading)
        leading[0] = (0, 0)
        leading.append((5, 5))
        self.assertEqual(told, [[(0, 4), (4, 0)], [(0, 0), (4, 4)]])
        self.assertEqual(places, [(0, 1)])
        self.assertEqual(uncrossed(12, [(0, 4), (4, 0)]), [[(0, 4), (4, 0)], [(0, 0), (4, 4)]])


class NothingRefused(unittest.TestCase):
    def test_somewhat_beyond_the_bounds(self):
        for n in [1, 2, 25, 30]:
            for leading in some_leadings(n) if n > 2 else [[], [(0, 0)], [(0, n - 1)]]:
                cost(n, leading)
                square(n, leading)
                self.assertEqual(crossings(n, uncrossed(n, leading)[-1]), [])

    def test_uncrossing_comes_to_an_end_with_tones_beyond_the_wheel(self):
        for leading in [[(0, 0), (30, 6)], [(0, 13), (12, 1)], [(-5, 7), (3, 20), (40, -3)]]:
            self.assertEqual(crossings(12, uncrossed(12, leading)[-1]), [])


if __name__ == "__main__":
    unittest.main()
