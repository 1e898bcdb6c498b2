import itertools
import unittest

from tests.samples import (
    SMALL_WHEELS, WHEELS, all_crowds, counts_by_hand, image_of_tones, is_change, is_whole, shuffled, some_crowds,
    ways_by_hand,
)
from tonemirror.errors import ToneError, Unknown
from tonemirror.families import kinds_of, twins
from tonemirror.keeper import Keeper
from tonemirror.wheel import changes


class ByHand:
    """What point 26 tells, always worked out anew from the list of all crowds told."""

    def __init__(self, n):
        self.n = n
        self.told_crowds = []

    def first_ones(self):
        found = []
        for crowd in self.told_crowds:
            if not any(ways_by_hand(self.n, first, crowd) for first in found):
                found.append(crowd)
        return found

    def kind(self, crowd):
        found = [k for k, first in enumerate(self.first_ones()) if ways_by_hand(self.n, first, crowd)]
        if len(found) != 1:
            raise AssertionError(crowd)
        return found[0]

    def told(self, crowd):
        self.told_crowds.append(crowd)
        kind = self.kind(crowd)
        return (kind, ways_by_hand(self.n, self.first_ones()[kind], crowd)[0])

    def members(self, kind):
        return [k for k, crowd in enumerate(self.told_crowds) if self.kind(crowd) == kind]

    def families(self):
        firsts = self.first_ones()
        found = []
        for one in range(len(firsts)):
            group = [
                other for other in range(len(firsts))
                if len(firsts[other]) == len(firsts[one])
                and counts_by_hand(self.n, firsts[other]) == counts_by_hand(self.n, firsts[one])
            ]
            if len(group) > 1 and group[0] == one:
                found.append(group)
        return found


def with_twins(n):
    """Kinds with the same counts of a wheel, changed, in a mixed order, some of them told again."""
    chosen = []
    for one, other in twins(n, n // 2)[:8]:
        chosen += [one, other]
    found = []
    for place, crowd in enumerate(chosen + chosen[:5]):
        image = image_of_tones(n, changes(n)[place * 5 % (2 * n)])
        found.append(tuple(sorted(image[tone] for tone in crowd)))
    return shuffled(found + [(), (0,), (n - 1,)], n)


class Refusing(unittest.TestCase):
    def refused(self, asked, *numbers):
        with self.assertRaises(ToneError, msg=numbers) as caught:
            asked(*numbers)
        self.assertIs(type(caught.exception), Unknown)


class Told(unittest.TestCase):
    def test_ordinary(self):
        keeper = Keeper(12)
        self.assertEqual(keeper.told((0, 4, 7)), (0, ("turn", 0)))
        self.assertEqual(keeper.told((2, 5, 9)), (0, ("mirror", 9)))
        self.assertEqual(keeper.told((0, 4, 8)), (1, ("turn", 0)))
        self.assertEqual(keeper.told((0, 4, 7)), (0, ("turn", 0)))
        self.assertEqual(keeper.told((1, 5, 8)), (0, ("turn", 1)))
        self.assertEqual(keeper.told((3, 7, 11)), (1, ("turn", 3)))
        self.assertEqual(keeper.told(()), (2, ("turn", 0)))

    def test_none_one_and_all_tones(self):
        for n in WHEELS:
            keeper = Keeper(n)
            self.assertEqual(keeper.told(()), (0, ("turn", 0)))
            self.assertEqual(keeper.told(tuple(range(n))), (1, ("turn", 0)))
            self.assertEqual(keeper.told((n - 1,)), (2, ("turn", 0)))
            self.assertEqual(keeper.told((0,)), (2, ("turn", 1)))
            self.assertEqual(keeper.told(()), (0, ("turn", 0)))
            self.assertEqual(keeper.told(tuple(range(n))), (1, ("turn", 0)))

    def test_the_way_is_from_the_first_crowd_of_the_kind_and_not_from_the_least_form(self):
        keeper = Keeper(12)
        self.assertEqual(keeper.told((2, 6, 9)), (0, ("turn", 0)))
        self.assertEqual(keeper.told((0, 4, 7)), (0, ("turn", 10)))
        self.assertEqual(keeper.told((0, 3, 7)), (0, ("mirror", 9)))
        self.assertEqual(keeper.told((0, 4, 7)), (0, ("turn", 10)))

    def test_one_told_again(self):
        for n in WHEELS:
            keeper = Keeper(n)
            crowd = (0, 1) + ((3,) if n > 4 else ())
            self.assertEqual([keeper.told(crowd) for _ in range(3)], [(0, ("turn", 0))] * 3)
            self.assertEqual(keeper.many(), 3)
            self.assertEqual(keeper.members(0), [0, 1, 2])

    def test_all_crowds_of_small_wheels(self):
        for n in (3, 4, 5, 6):
            self.compare(n, all_crowds(n))
            self.compare(n, shuffled(all_crowds(n), 3))

    def test_chosen_crowds_of_every_wheel(self):
        for n in WHEELS:
            self.compare(n, shuffled(some_crowds(n) + some_crowds(n)[:4], n))

    def test_kinds_with_the_same_counts(self):
        for n in (8, 10, 11, 12):
            self.compare(n, with_twins(n))

    def compare(self, n, crowds):
        keeper = Keeper(n)
        by_hand = ByHand(n)
        for crowd in crowds:
            told = keeper.told(crowd)
            self.assertEqual(told, by_hand.told(crowd), (n, crowd))
            self.assertIs(type(told), tuple)
            self.assertTrue(is_whole(told[0]))
            self.assertTrue(is_change(n, told[1]))
            self.assertEqual(keeper.families(), by_hand.families())
        for kind in range(len(by_hand.first_ones())):
            self.assertEqual(keeper.members(kind), by_hand.members(kind))
        self.assertEqual(keeper.many(), len(crowds))


class Many(unittest.TestCase):
    def test_counts_every_crowd_told(self):
        for n in WHEELS:
            keeper = Keeper(n)
            self.assertEqual(keeper.many(), 0)
            for told, crowd in enumerate(some_crowds(n) * 2, start=1):
                keeper.told(crowd)
                self.assertEqual(keeper.many(), told)
                self.assertIs(type(keeper.many()), int)


class Members(Refusing):
    def test_ordinary(self):
        keeper = Keeper(12)
        for crowd in [(0, 4, 7), (0, 3, 7), (0, 4, 8), (0, 4, 7), (1, 5, 9), (0, 1), (2, 6, 9)]:
            keeper.told(crowd)
        self.assertEqual(keeper.members(0), [0, 1, 3, 6])
        self.assertEqual(keeper.members(1), [2, 4])
        self.assertEqual(keeper.members(2), [5])

    def test_every_crowd_is_in_one_kind(self):
        for n in SMALL_WHEELS:
            keeper = Keeper(n)
            kinds = [keeper.told(crowd)[0] for crowd in shuffled(all_crowds(n), 1)]
            found = []
            for kind in range(max(kinds) + 1):
                members = keeper.members(kind)
                self.assertIs(type(members), list)
                self.assertEqual(members, [k for k, other in enumerate(kinds) if other == kind])
                found += members
            self.assertEqual(sorted(found), list(range(1 << n)))
            self.assertEqual(max(kinds) + 1, sum(len(kinds_of(n, size)) for size in range(n + 1)))

    def test_numbers_that_stand_for_no_kind(self):
        for n in (3, 12, 24):
            keeper = Keeper(n)
            for number in (0, 1, -1, 10 ** 59, -(10 ** 59), 10 ** 5000, -(10 ** 5000)):
                self.refused(keeper.members, number)
            # Three crowds, two kinds.
            for crowd in [(0,), (1,), (0, 1)]:
                keeper.told(crowd)
            # The last ones are longer than what a text can be made of.
            for number in (2, 3, 100, -1, -2, -3, 10 ** 59, -(10 ** 59), 10 ** 5000, -(10 ** 5000)):
                self.refused(keeper.members, number)
            self.assertEqual(keeper.members(0), [0, 1])
            self.assertEqual(keeper.members(1), [2])


class Families(unittest.TestCase):
    def told_all(self, n, crowds):
        keeper = Keeper(n)
        for crowd in crowds:
            keeper.told(crowd)
        return keeper.families()

    def test_none_told_and_none_found(self):
        for n in WHEELS:
            self.assertEqual(Keeper(n).families(), [])
            # None and one tone have the same counts, and not as many tones.
            self.assertEqual(self.told_all(n, [(), (0,), (1,), (0, 1), (1, 2)]), [])

    def test_ordinary(self):
        self.assertEqual(self.told_all(12, [(0, 1, 4, 6)]), [])
        self.assertEqual(self.told_all(12, [(0, 1, 4, 6), (0, 1, 3, 7)]), [[0, 1]])
        self.assertEqual(self.told_all(12, [(0, 1, 3, 7), (0, 1), (0, 1, 4, 6), (1, 2, 5, 7)]), [[0, 2]])

    def test_told_up_to_then(self):
        keeper = Keeper(8)
        keeper.told((0, 1, 2, 5))
        self.assertEqual(keeper.families(), [])
        keeper.told((0, 1))
        self.assertEqual(keeper.families(), [])
        keeper.told((0, 1, 3, 4))
        self.assertEqual(keeper.families(), [[0, 2]])
        keeper.told((1, 2, 3, 6))
        self.assertEqual(keeper.families(), [[0, 2]])

    def test_of_several_families_the_one_with_the_least_kind_is_first(self):
        # The second one of the first family comes behind both of the second family.
        crowds = [(0, 1, 4, 6), (0, 1, 2, 5, 7), (0, 1), (0, 1, 3, 5, 6), (0, 1, 3, 7)]
        found = self.told_all(12, crowds)
        by_hand = ByHand(12)
        for crowd in crowds:
            by_hand.told(crowd)
        self.assertEqual(found, by_hand.families())
        self.assertEqual(found[0], [0, 4])
        self.assertEqual(self.told_all(12, crowds[1:] + crowds[:1])[-1], [3, 4])

    def test_three_kinds_in_one_family(self):
        # On a wheel of 16 tones there are more than two kinds with the same counts.
        by_counts = {}
        for crowd in itertools.combinations(range(16), 6):
            if crowd[0] == 0:
                by_counts.setdefault(counts_by_hand(16, crowd), []).append(crowd)
        found = 0
        for crowds in by_counts.values():
            by_hand = ByHand(16)
            # Two crowds of one kind do not make a family, three kinds do; a few are enough.
            for crowd in crowds[:12]:
                by_hand.told(crowd)
            if len(by_hand.first_ones()) >= 3:
                firsts = by_hand.first_ones()
                self.assertEqual(self.told_all(16, [(0, 2)] + firsts), [list(range(1, len(firsts) + 1))])
                found += 1
            if found == 3:
                break
        self.assertEqual(found, 3)

    def test_all_twins_of_a_wheel(self):
        for n in (8, 10, 12):
            forms = [form for size in range(n + 1) for form in kinds_of(n, size)]
            found = self.told_all(n, forms)
            pairs = []
            for family in found:
                self.assertIs(type(family), list)
                self.assertEqual(family, sorted(set(family)))
                pairs += [(forms[one], forms[other]) for one, other in itertools.combinations(family, 2)]
            self.assertEqual(sorted(pairs), sorted(twins(n, n)))
            self.assertEqual([family[0] for family in found], sorted(family[0] for family in found))


class Between(Refusing):
    def test_ordinary(self):
        keeper = Keeper(12)
        for crowd in [(0, 4, 7), (0, 3, 7), (0, 4, 8), (0, 4, 7)]:
            keeper.told(crowd)
        self.assertEqual(keeper.between(0, 1), [("mirror", 7)])
        self.assertEqual(keeper.between(1, 0), [("mirror", 7)])
        self.assertEqual(keeper.between(0, 2), [])
        self.assertEqual(keeper.between(0, 0), [("turn", 0)])
        self.assertEqual(keeper.between(0, 3), [("turn", 0)])
        self.assertEqual(
            keeper.between(2, 2),
            [("turn", 0), ("turn", 4), ("turn", 8), ("mirror", 0), ("mirror", 4), ("mirror", 8)],
        )

    def test_any_two_of_chosen_crowds(self):
        for n in WHEELS:
            crowds = shuffled(some_crowds(n), n)[:9]
            image = image_of_tones(n, ("mirror", 1))
            crowds += [tuple(sorted(image[tone] for tone in crowd)) for crowd in crowds[:5]]
            keeper = Keeper(n)
            for crowd in crowds:
                keeper.told(crowd)
            for one in range(len(crowds)):
                for other in range(len(crowds)):
                    told = keeper.between(one, other)
                    self.assertIs(type(told), list)
                    self.assertEqual(told, ways_by_hand(n, crowds[one], crowds[other]))

    def test_the_order_of_the_two(self):
        for n in WHEELS:
            keeper = Keeper(n)
            keeper.told((0,))
            keeper.told((1,))
            self.assertEqual(keeper.between(0, 1), [("turn", 1), ("mirror", 1)])
            self.assertEqual(keeper.between(1, 0), [("turn", n - 1), ("mirror", 1)])

    def test_numbers_that_stand_for_no_crowd(self):
        for n in (3, 12, 24):
            keeper = Keeper(n)
            self.refused(keeper.between, 0, 0)
            self.refused(keeper.between, -1, -1)
            for crowd in [(0,), (1,), (0, 1)]:
                keeper.told(crowd)
            for wrong in (3, 4, 100, -1, -2, -3, -4, 10 ** 59, -(10 ** 59), 10 ** 5000, -(10 ** 5000)):
                self.refused(keeper.between, 0, wrong)
                self.refused(keeper.between, wrong, 0)
                self.refused(keeper.between, 2, wrong)
                self.refused(keeper.between, wrong, 2)
                self.refused(keeper.between, wrong, wrong)
            self.assertEqual(keeper.between(2, 2), [("turn", 0), ("mirror", 1)])


class TheAskersOwn(Refusing):
    def keeper(self):
        keeper = Keeper(8)
        for crowd in [(0, 1, 2, 5), (0, 1, 3, 4), (1, 2, 3, 6), (0, 4)]:
            keeper.told(crowd)
        return keeper

    def test_changed_lists_change_no_later_answer(self):
        keeper = self.keeper()
        keeper.members(0).append(9)
        keeper.members(0).clear()
        keeper.families()[0].append(9)
        keeper.families()[0].clear()
        keeper.families().clear()
        keeper.between(0, 2).append(("turn", 9))
        keeper.between(0, 2).clear()
        self.assertEqual(keeper.members(0), [0, 2])
        self.assertEqual(keeper.families(), [[0, 1]])
        self.assertEqual(keeper.between(0, 2), [("turn", 1), ("mirror", 3)])
        self.assertEqual(keeper.told((2, 3, 4, 7)), (0, ("turn", 2)))
        self.assertEqual(keeper.members(0), [0, 2, 4])
        self.assertEqual(keeper.families(), [[0, 1]])
        self.assertEqual(keeper.many(), 5)

    def test_what_is_told_later_changes_no_told_list(self):
        keeper = self.keeper()
        members = keeper.members(2)
        families = keeper.families()
        family = keeper.families()[0]
        between = keeper.between(3, 3)
        kept = (list(members), [list(one) for one in families], list(family), list(between))
        for crowd in [(1, 5), (0, 1, 2, 5), (0, 1, 2), (0, 1, 4)]:
            keeper.told(crowd)
        self.assertEqual(keeper.members(2), [3, 4])
        self.assertEqual((members, families, family, between), kept)

    def test_a_refused_question_changes_nothing(self):
        keeper = self.keeper()
        for number in (-1, 3, 4, 100):
            self.refused(keeper.members, number)
        for number in (-1, 4, 100):
            self.refused(keeper.between, number, 0)
            self.refused(keeper.between, 0, number)
        self.assertEqual(keeper.many(), 4)
        self.assertEqual(keeper.families(), [[0, 1]])
        self.assertEqual(keeper.told((2, 6)), (2, ("turn", 2)))
        self.assertEqual(keeper.members(2), [3, 4])

    def test_asking_changes_nothing(self):
        keeper = self.keeper()
        for _ in range(3):
            self.assertEqual(keeper.many(), 4)
            self.assertEqual(keeper.families(), [[0, 1]])
            self.assertEqual([keeper.members(kind) for kind in range(3)], [[0, 2], [1], [3]])
            self.assertEqual(keeper.between(0, 1), [])


class TwoKeepers(Refusing):
    def test_of_one_wheel_do_not_mix(self):
        one = Keeper(8)
        other = Keeper(8)
        self.assertEqual(one.told((0, 1, 2, 5)), (0, ("turn", 0)))
        self.assertEqual((one.many(), other.many()), (1, 0))
        self.refused(other.members, 0)
        self.refused(other.between, 0, 0)
        self.assertEqual(other.told((0, 1, 3, 4)), (0, ("turn", 0)))
        self.assertEqual(one.families(), [])
        self.assertEqual(other.families(), [])
        self.assertEqual(other.told((1, 2, 3, 6)), (1, ("turn", 0)))
        self.assertEqual(other.families(), [[0, 1]])
        self.assertEqual(one.families(), [])
        self.assertEqual(one.members(0), [0])
        self.refused(one.members, 1)
        self.assertEqual(other.members(1), [1])

    def test_of_two_wheels_do_not_mix(self):
        one = Keeper(8)
        other = Keeper(12)
        for keeper in (one, other):
            keeper.told((0, 4))
        self.assertEqual(one.between(0, 0), [("turn", 0), ("turn", 4), ("mirror", 0), ("mirror", 4)])
        self.assertEqual(other.between(0, 0), [("turn", 0), ("mirror", 4)])
        self.assertEqual(one.told((3, 7)), (0, ("turn", 3)))
        self.assertEqual(other.told((3, 7)), (0, ("turn", 3)))
        self.assertEqual(one.told((1, 5)), (0, ("turn", 1)))
        self.assertEqual(one.told((0, 5)), (1, ("turn", 0)))
        self.assertEqual(other.told((0, 8)), (0, ("turn", 8)))


class NothingElseRefused(unittest.TestCase):
    def test_somewhat_beyond_the_bounds(self):
        for n in [1, 2, 25, 30]:
            keeper = Keeper(n)
            self.assertEqual(keeper.told((0,)), (0, ("turn", 0)))
            self.assertEqual(keeper.told((n - 1,)), (0, ("turn", n - 1)))
            self.assertEqual(keeper.families(), [])
            self.assertEqual(keeper.members(0), [0, 1])

    def test_tones_beyond_the_wheel(self):
        keeper = Keeper(12)
        self.assertEqual(keeper.told((0, 4, 19)), (0, ("turn", 0)))
        self.assertEqual(keeper.told((0, 3, 7)), (0, ("mirror", 7)))
        self.assertEqual(keeper.between(0, 1), [("mirror", 7)])

    def test_five_hundred_crowds(self):
        keeper = Keeper(24)
        crowds = shuffled(list(itertools.combinations(range(0, 24, 2), 5)), 0)[:500]
        for crowd in crowds:
            keeper.told(crowd)
        self.assertEqual(keeper.many(), 500)
        for number in (0, 250, 499):
            self.assertEqual(keeper.between(0, number), ways_by_hand(24, crowds[0], crowds[number]))


if __name__ == "__main__":
    unittest.main()
