"""All names of the interface, with their arguments, and what point 2 asks of all of them."""

import importlib
import inspect
import unittest

from tests.samples import is_whole
from tonemirror.desk import Desk
from tonemirror.errors import NoHalf, NoLeading, NoRow, NoText, ToneError, Unknown
from tonemirror.keeper import Keeper

INTERFACE = {
    "wheel": [
        "step(n, one, other)", "distance(n, one, other)", "move(n, one, other)", "done(n, change, tone)", "changes(n)",
        "then(n, one, other)", "back(n, change)",
    ],
    "crowds": [
        "crowd_of(n, numbers)", "changed(n, crowd, change)", "others(n, crowd)", "common(one, other)",
        "counts(n, crowd)", "sums(n, crowd)",
    ],
    "kinds": ["before(one, other)", "ways(n, one, other)", "images(n, crowd)", "least_form(n, crowd)"],
    "halves": ["counts_of_others(n, size, numbers)", "pairs_at(n, crowd, d)", "matched(n, half, d)"],
    "families": ["kinds_of(n, size)", "twins(n, most)"],
    "chords": ["tones(sort, chord)", "led(sort, chord, word)", "chord_changed(sort, chord, change)"],
    "words": ["effect(sort, word)", "shortest(sort, word)", "rules(sort)", "steps(sort, word)"],
    "leadings": ["cost(n, leading)", "square(n, leading)", "crossings(n, leading)", "uncrossed(n, leading)"],
    "least": ["least_leading(n, one, other)", "prices(n, one, other)"],
    "rows": [
        "formed(n, row, form)", "forms(n)", "forms_between(n, row, other)", "square_of(n, row)", "fitting(n, row)",
    ],
    "texts": [
        "crowd_text(crowd)", "change_text(change)", "leading_text(leading)", "read_crowd(n, text)", "read_row(n, text)",
        "read_change(n, text)",
    ],
    "sayings": ["does(n, saying)"],
    "language": ["saying_text(saying)", "read_saying(n, text)"],
    "keeper": ["Keeper(n)"],
    "desk": ["Desk(n)"],
}
METHODS = {
    Keeper: ["told(crowd)", "many()", "members(kind)", "families()", "between(one, other)"],
    Desk: ["say(row)"],
}
# A call of each function, and what it tells.
SAYING = ("times", ("undo", ("change", ("turn", 5))), 3)
CALLS = [
    ("wheel", "step", (12, 7, 0), 5),
    ("wheel", "distance", (12, 0, 7), 5),
    ("wheel", "move", (12, 0, 7), -5),
    ("wheel", "done", (12, ("mirror", 3), 5), 10),
    ("wheel", "changes", (3,), [(word, k) for word in ("turn", "mirror") for k in range(3)]),
    ("wheel", "then", (12, ("turn", 5), ("mirror", 3)), ("mirror", 10)),
    ("wheel", "back", (12, ("turn", 5)), ("turn", 7)),
    ("crowds", "crowd_of", (12, [7, 0, 16, -8]), (0, 4, 7)),
    ("crowds", "changed", (12, (0, 4, 7), ("mirror", 7)), (0, 3, 7)),
    ("crowds", "others", (4, (0, 2)), (1, 3)),
    ("crowds", "common", ((0, 4, 7), (0, 3, 7)), (0, 7)),
    ("crowds", "counts", (12, (0, 4, 7)), (0, 0, 1, 1, 1, 0)),
    ("crowds", "sums", (4, (0, 1)), (1, 2, 1, 0)),
    ("kinds", "before", ((0, 4), (0, 1, 2)), True),
    ("kinds", "ways", (12, (0, 4, 7), (0, 3, 7)), [("mirror", 7)]),
    ("kinds", "images", (4, (0, 2)), [(0, 2), (1, 3)]),
    ("kinds", "least_form", (12, (2, 7, 11)), (0, 3, 7)),
    ("halves", "counts_of_others", (4, 1, (0, 0)), (2, 1)),
    ("halves", "pairs_at", (12, (0, 4, 7), 5), [(7, 0)]),
    ("halves", "matched", (8, (0, 1, 4, 6), 4), [((0, 4), (3, 7))]),
    ("families", "kinds_of", (4, 2), [(0, 1), (0, 2)]),
    ("families", "twins", (8, 8), [((0, 1, 2, 5), (0, 1, 3, 4))]),
    ("chords", "tones", ((12, 4, 3), (9, "down")), (9, 0, 4)),
    ("chords", "led", ((12, 4, 3), (0, "up"), "c"), (9, "down")),
    ("chords", "chord_changed", ((12, 4, 3), (0, "up"), ("mirror", 7)), (0, "down")),
    ("words", "effect", ((12, 4, 3), "c"), (1, 9)),
    ("words", "shortest", ((12, 4, 3), "bab"), "aba"),
    ("words", "rules", ((3, 1, 1),), [
        ("aa", ""), ("ba", "ac"), ("bb", ""), ("bc", "ab"), ("ca", "ab"), ("cb", "ac"), ("cc", ""), ("aba", "c"),
        ("abb", "a"), ("abc", "b"), ("aca", "b"), ("acb", "c"), ("acc", "a"),
    ]),
    ("words", "steps", ((12, 4, 3), "abba"), ["abba", "aa", ""]),
    ("leadings", "cost", (12, [(0, 7)]), 5),
    ("leadings", "square", (12, [(0, 7)]), 25),
    ("leadings", "crossings", (12, [(0, 4), (4, 0), (7, 7)]), [(0, 1)]),
    ("leadings", "uncrossed", (12, [(0, 4), (4, 0)]), [[(0, 4), (4, 0)], [(0, 0), (4, 4)]]),
    ("least", "least_leading", (12, (0, 4, 7), (2, 7, 11)), (3, [(0, 11), (4, 2), (7, 7)])),
    ("least", "prices", (12, (), ()), ((), ())),
    ("rows", "formed", (3, (0, 1, 2), (("turn", 1), "back")), (0, 2, 1)),
    ("rows", "forms", (3,), [
        ((word, k), way) for way in ("on", "back") for word in ("turn", "mirror") for k in range(3)
    ]),
    ("rows", "forms_between", (4, (0, 1, 3, 2), (2, 3, 1, 0)), [(("turn", 2), "on"), (("turn", 0), "back")]),
    ("rows", "square_of", (3, (1, 0, 2)), [(1, 0, 2), (2, 1, 0), (0, 2, 1)]),
    ("rows", "fitting", (6, (0, 1, 3, 2, 4, 5)), [(("mirror", 5), "on"), (("turn", 0), "back")]),
    ("texts", "crowd_text", ((0, 4, 7),), "0,4,7"),
    ("texts", "change_text", (("turn", 5),), "t5"),
    ("texts", "leading_text", ([(0, 11), (4, 2)],), "0>11,4>2"),
    ("texts", "read_crowd", (12, "0,4,7"), (0, 4, 7)),
    ("texts", "read_row", (3, "1,0,2"), (1, 0, 2)),
    ("texts", "read_change", (12, "m11"), ("mirror", 11)),
    ("sayings", "does", (12, SAYING), ("turn", 9)),
    ("language", "saying_text", (SAYING,), "~t5*3"),
    ("language", "read_saying", (12, "~t5*3"), SAYING),
]


def named(module, name):
    return getattr(importlib.import_module("tonemirror." + module), name)


def same_kinds(one, other):
    """Whether two values are of the same kinds throughout, so that no truth stands for a number."""
    if type(one) is not type(other):
        return False
    if type(one) in (list, tuple):
        return len(one) == len(other) and all(map(same_kinds, one, other))
    return type(one) in (str, bool) or is_whole(one)


def copied(value):
    if type(value) in (list, tuple):
        return type(value)(map(copied, value))
    return value


def spoiled(value):
    """Changes every list that is told, and the lists within it."""
    if type(value) in (list, tuple):
        for part in value:
            spoiled(part)
    if type(value) is list:
        value.append("spoiled")
        value.reverse()


class Names(unittest.TestCase):
    def test_functions_and_classes_with_their_arguments(self):
        for module, listed in INTERFACE.items():
            for row in listed:
                name = row.partition("(")[0]
                self.assertEqual(name + str(inspect.signature(named(module, name))), row)

    def test_methods_with_their_arguments(self):
        for one, listed in METHODS.items():
            for row in listed:
                name = row.partition("(")[0]
                # Of an object, so that it is told without self.
                self.assertEqual(name + str(inspect.signature(getattr(one(12), name))), row)

    def test_arguments_may_be_handed_in_by_their_names(self):
        for module, name, values, told in CALLS:
            asked = named(module, name)
            by_name = dict(zip(inspect.signature(asked).parameters, copied(values)))
            self.assertEqual(asked(**by_name), told, name)
        self.assertEqual(Keeper(n=12).told(crowd=(0, 4, 7)), (0, ("turn", 0)))
        self.assertEqual(Desk(n=12).say(row="saying m3"), "m3")

    def test_every_function_is_called_here(self):
        listed = [(module, row.partition("(")[0]) for module in INTERFACE for row in INTERFACE[module]]
        called = [(module, name) for module, name, values, told in CALLS]
        self.assertEqual(called + [("keeper", "Keeper"), ("desk", "Desk")], listed)

    def test_refusals(self):
        for error in (NoHalf, NoLeading, NoText, NoRow, Unknown):
            self.assertEqual(error.__bases__, (ToneError,))
        self.assertEqual(ToneError.__bases__, (ValueError,))


class Values(unittest.TestCase):
    def test_what_is_told_is_of_the_kinds_told(self):
        for module, name, values, told in CALLS:
            found = named(module, name)(*copied(values))
            self.assertEqual(found, told, name)
            self.assertTrue(same_kinds(found, told), (name, found))

    def test_what_is_handed_in_stays_as_it_is(self):
        for module, name, values, told in CALLS:
            handed = copied(values)
            named(module, name)(*handed)
            self.assertEqual(handed, values, name)

    def test_what_is_told_is_the_askers_own(self):
        for module, name, values, told in CALLS:
            handed = copied(values)
            spoiled(named(module, name)(*handed))
            self.assertEqual(handed, values, name)
            self.assertEqual(named(module, name)(*handed), told, name)

    def test_a_change_to_what_was_handed_in_changes_nothing_told(self):
        for module, name, values, told in CALLS:
            handed = copied(values)
            found = named(module, name)(*handed)
            spoiled(handed)
            self.assertEqual(found, told, name)
            self.assertEqual(named(module, name)(*copied(values)), told, name)


if __name__ == "__main__":
    unittest.main()
