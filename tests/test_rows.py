import unittest

from tests.samples import WHEELS, all_rows, is_change, some_rows
from tonemirror.errors import NoHalf, ToneError
from tonemirror.rows import fitting, formed, forms, forms_between, square_of
from tonemirror.wheel import changes

EVEN = [n for n in WHEELS if n % 2 == 0]
ODD = [n for n in WHEELS if n % 2 == 1]
# A row of twelve tones without any form of its own but itself.
TWELVE = (4, 5, 7, 1, 6, 3, 8, 2, 11, 0, 9, 10)


def rows(n):
    return all_rows(n) if n <= 4 else some_rows(n)


def is_row(n, value):
    return type(value) is tuple and all(type(tone) is int for tone in value) and sorted(value) == list(range(n))


def changed_by_hand(n, change, tone):
    """Point 5: walked tone by tone from where the change leads 0."""
    word, k = change
    for _ in range(tone):
        k = (0 if k == n - 1 else k + 1) if word == "turn" else (n - 1 if k == 0 else k - 1)
    return k


def formed_by_hand(n, row, form):
    change, way = form
    found = ()
    for tone in row:
        new = (changed_by_hand(n, change, tone),)
        found = found + new if way == "on" else new + found
    return found


class Formed(unittest.TestCase):
    def test_ordinary(self):
        row = (0, 2, 1, 4, 3)
        self.assertEqual(formed(5, row, (("turn", 0), "on")), row)
        self.assertEqual(formed(5, row, (("turn", 2), "on")), (2, 4, 3, 1, 0))
        self.assertEqual(formed(5, row, (("turn", 2), "back")), (0, 1, 3, 4, 2))
        self.assertEqual(formed(5, row, (("mirror", 1), "on")), (1, 4, 0, 2, 3))
        self.assertEqual(formed(5, row, (("mirror", 1), "back")), (3, 2, 0, 4, 1))
        self.assertEqual(
            formed(12, TWELVE, (("mirror", 11), "back")), (1, 2, 11, 0, 9, 3, 8, 5, 10, 4, 6, 7)
        )

    def test_as_point_21_says(self):
        for n in WHEELS:
            for row in rows(n):
                for form in forms(n):
                    told = formed(n, row, form)
                    self.assertTrue(is_row(n, told), (n, row, form))
                    self.assertEqual(told, formed_by_hand(n, row, form), (n, row, form))

    def test_back_twice_leads_back(self):
        for n in WHEELS:
            for row in rows(n):
                once = formed(n, row, (("turn", 0), "back"))
                self.assertEqual(once, row[::-1])
                self.assertEqual(formed(n, once, (("turn", 0), "back")), row)


class Forms(unittest.TestCase):
    def test_ordinary(self):
        self.assertEqual(
            forms(3),
            [
                (("turn", 0), "on"), (("turn", 1), "on"), (("turn", 2), "on"),
                (("mirror", 0), "on"), (("mirror", 1), "on"), (("mirror", 2), "on"),
                (("turn", 0), "back"), (("turn", 1), "back"), (("turn", 2), "back"),
                (("mirror", 0), "back"), (("mirror", 1), "back"), (("mirror", 2), "back"),
            ],
        )

    def test_in_the_order_of_the_changes_on_before_back(self):
        for n in WHEELS:
            told = forms(n)
            self.assertIs(type(told), list)
            self.assertEqual(len(told), 4 * n)
            for form in told:
                self.assertIs(type(form), tuple)
                self.assertEqual(len(form), 2)
                self.assertTrue(is_change(n, form[0]))
            self.assertEqual([way for change, way in told], ["on"] * (2 * n) + ["back"] * (2 * n))
            words = ["turn"] * n + ["mirror"] * n
            self.assertEqual([change[0] for change, way in told], words + words)
            self.assertEqual([change[1] for change, way in told], list(range(n)) * 4)
            self.assertEqual([change for change, way in told], changes(n) + changes(n))


class FormsBetween(unittest.TestCase):
    def test_ordinary(self):
        row = (0, 2, 1, 4, 3)
        self.assertEqual(forms_between(5, row, row), [(("turn", 0), "on")])
        self.assertEqual(forms_between(5, row, (2, 4, 3, 1, 0)), [(("turn", 2), "on")])
        self.assertEqual(forms_between(5, row, (3, 2, 0, 4, 1)), [(("mirror", 1), "back")])
        self.assertEqual(forms_between(5, row, (0, 1, 2, 3, 4)), [])
        self.assertEqual(forms_between(12, TWELVE, TWELVE), [(("turn", 0), "on")])

    def test_a_row_that_two_forms_make_the_same(self):
        self.assertEqual(forms_between(4, (0, 1, 3, 2), (0, 1, 3, 2)), [(("turn", 0), "on"), (("turn", 2), "back")])
        self.assertEqual(forms_between(4, (0, 1, 3, 2), (3, 0, 2, 1)), [(("turn", 3), "on"), (("turn", 1), "back")])
        self.assertEqual(forms_between(4, (0, 1, 3, 2), (1, 0, 2, 3)), [(("mirror", 1), "on"), (("mirror", 3), "back")])
        for n in WHEELS:
            rising = tuple(range(n))
            falling = rising[::-1]
            itself = [(("turn", 0), "on"), (("mirror", n - 1), "back")]
            self.assertEqual(forms_between(n, rising, rising), itself)
            self.assertEqual(forms_between(n, falling, falling), itself)
            turned_round = [(("mirror", n - 1), "on"), (("turn", 0), "back")]
            self.assertEqual(forms_between(n, rising, falling), turned_round)

    def test_a_row_that_is_no_form_of_the_other(self):
        self.assertEqual(forms_between(4, (0, 1, 2, 3), (0, 1, 3, 2)), [])
        self.assertEqual(forms_between(12, TWELVE, tuple(range(12))), [])
        for n in WHEELS[1:]:
            rising = tuple(range(n))
            self.assertEqual(forms_between(n, rising, (1, 0) + rising[2:]), [], n)

    def test_all_forms_that_make_the_one_the_other(self):
        for n in WHEELS:
            chosen = rows(n)
            for row in chosen[:8]:
                for other in chosen[:8] + [formed_by_hand(n, row, form) for form in forms(n)[::5]]:
                    told = forms_between(n, row, other)
                    self.assertIs(type(told), list)
                    expected = [form for form in forms(n) if formed_by_hand(n, row, form) == other]
                    self.assertEqual(told, expected, (n, row, other))

    def test_from_a_row_to_itself_one_or_two(self):
        seen = set()
        for n in WHEELS:
            for row in all_rows(n) if n <= 6 else some_rows(n):
                told = forms_between(n, row, row)
                self.assertEqual(told[0], (("turn", 0), "on"))
                self.assertIn(len(told), (1, 2))
                seen.add(len(told))
        self.assertEqual(seen, {1, 2})

    def test_every_form_leads_to_its_row(self):
        for n in WHEELS:
            for row in rows(n)[:4]:
                for form in forms(n):
                    self.assertIn(form, forms_between(n, row, formed(n, row, form)))


class SquareOf(unittest.TestCase):
    def test_ordinary(self):
        self.assertEqual(square_of(3, (1, 0, 2)), [(1, 0, 2), (2, 1, 0), (0, 2, 1)])
        self.assertEqual(square_of(4, (0, 1, 3, 2)), [(0, 1, 3, 2), (3, 0, 2, 1), (1, 2, 0, 3), (2, 3, 1, 0)])
        self.assertEqual(
            square_of(5, (2, 0, 3, 4, 1)),
            [(2, 0, 3, 4, 1), (4, 2, 0, 1, 3), (1, 4, 2, 3, 0), (0, 3, 1, 2, 4), (3, 1, 4, 0, 2)],
        )

    def test_as_point_22_says(self):
        for n in WHEELS:
            for row in rows(n):
                told = square_of(n, row)
                self.assertIs(type(told), list)
                self.assertEqual(len(told), n)
                for i in range(n):
                    self.assertTrue(is_row(n, told[i]), (n, row))
                    for j in range(n):
                        far = told[i][j] - (row[j] - row[i] + row[0])
                        self.assertEqual(far - far // n * n, 0, (n, row, i, j))

    def test_rows_are_turned_and_columns_are_mirrored(self):
        for n in WHEELS:
            turns = [(("turn", k), "on") for k in range(n)]
            mirrors = [(("mirror", k), "on") for k in range(n)]
            for row in rows(n)[:6]:
                told = square_of(n, row)
                self.assertEqual(told[0], row)
                turned = [formed_by_hand(n, row, form) for form in turns]
                mirrored = [formed_by_hand(n, row, form) for form in mirrors]
                self.assertEqual(sorted(told), sorted(turned), (n, row))
                self.assertEqual(sorted(zip(*told)), sorted(mirrored), (n, row))

    def test_the_first_tone_goes_down_from_corner_to_corner(self):
        for n in WHEELS:
            for row in rows(n):
                told = square_of(n, row)
                self.assertEqual([told[i][i] for i in range(n)], [row[0]] * n)


class Fitting(unittest.TestCase):
    def test_ordinary(self):
        self.assertEqual(
            fitting(4, (0, 1, 2, 3)),
            [(("turn", 2), "on"), (("mirror", 3), "on"), (("turn", 0), "back"), (("mirror", 1), "back")],
        )
        self.assertEqual(
            fitting(4, (0, 2, 1, 3)),
            [
                (("turn", 1), "on"), (("turn", 3), "on"), (("mirror", 1), "on"), (("mirror", 3), "on"),
                (("turn", 0), "back"), (("turn", 2), "back"), (("mirror", 0), "back"), (("mirror", 2), "back"),
            ],
        )
        self.assertEqual(
            fitting(6, (0, 1, 3, 2, 4, 5)), [(("mirror", 5), "on"), (("turn", 0), "back")]
        )

    def test_the_row_turned_round_always_fits(self):
        for n in EVEN:
            for row in rows(n):
                told = fitting(n, row)
                self.assertIn((("turn", 0), "back"), told)
                self.assertNotIn((("turn", 0), "on"), told)

    def test_just_those_with_no_tone_in_common_in_order(self):
        for n in EVEN:
            for row in rows(n):
                half = set(row[: n // 2])
                expected = [
                    form for form in forms(n) if half.isdisjoint(formed_by_hand(n, row, form)[: n // 2])
                ]
                told = fitting(n, row)
                self.assertIs(type(told), list)
                self.assertEqual(told, expected, (n, row))

    def test_all_rows_of_six_tones(self):
        for row in all_rows(6)[::3]:
            half = set(row[:3])
            self.assertEqual(
                fitting(6, row), [form for form in forms(6) if not half & set(formed_by_hand(6, row, form)[:3])]
            )

    def test_odd_wheels_are_refused(self):
        for n in ODD:
            for row in rows(n):
                with self.assertRaises(ToneError) as caught:
                    fitting(n, row)
                self.assertIs(type(caught.exception), NoHalf)


class TheAskersOwn(unittest.TestCase):
    def test_told_lists_are_not_told_again(self):
        row = (0, 1, 3, 2)
        itself = [(("turn", 0), "on"), (("turn", 2), "back")]
        four = forms(4)
        for asked, expected in [
            (lambda: forms(4), list(four)),
            (lambda: forms_between(4, row, row), itself),
            (lambda: square_of(4, row), [(0, 1, 3, 2), (3, 0, 2, 1), (1, 2, 0, 3), (2, 3, 1, 0)]),
            (lambda: fitting(4, row), [form for form in four if form in fitting(4, row)]),
        ]:
            told = asked()
            self.assertEqual(told, expected)
            told.append("more")
            told[0] = "other"
            forms(5)
            square_of(3, (0, 1, 2))
            fitting(6, (0, 1, 2, 3, 4, 5))
            again = asked()
            self.assertEqual(again, expected)
            told.clear()
            self.assertEqual(again, expected)


class NothingRefused(unittest.TestCase):
    def test_somewhat_beyond_the_bounds(self):
        for n in [1, 2, 25, 30]:
            row = tuple(range(n))
            self.assertEqual(len(forms(n)), 4 * n)
            self.assertIn((("turn", 0), "on"), forms_between(n, row, row))
            self.assertEqual(square_of(n, row)[0], row)
            if n % 2 == 0:
                self.assertIn((("turn", 0), "back"), fitting(n, row))


if __name__ == "__main__":
    unittest.main()
