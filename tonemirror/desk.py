"""The Desk: crowds kept by names, and rows that put them or ask for them (point 27)."""

from tonemirror.crowds import changed, common, counts, others, sums
from tonemirror.errors import NoRow, Unknown
from tonemirror.keeper import Keeper
from tonemirror.kinds import least_form, ways
from tonemirror.language import read_saying
from tonemirror.least import least_leading
from tonemirror.sayings import does
from tonemirror.texts import change_text, crowd_text, leading_text, read_crowd

LETTERS = "abcdefghijklmnopqrstuvwxyz"
LONGEST_NAME = 8
# What stands behind the first part of each row: a name that is put, a name that stands for a crowd
# already, the text of a crowd, the text of a saying.
SHAPES = {
    "crowd": ("new", "crowd"),
    "move": ("new", "old", "saying"),
    "others": ("new", "old"),
    "common": ("new", "old", "old"),
    "show": ("old",),
    "least": ("old",),
    "ways": ("old", "old"),
    "counts": ("old",),
    "sums": ("old",),
    "lead": ("old", "old"),
    "saying": ("saying",),
    "kind": ("old",),
}


def is_name(part):
    return 1 <= len(part) <= LONGEST_NAME and all([sign in LETTERS for sign in part])


def parted(row):
    parts = row.split(" ")
    if parts[0] not in SHAPES:
        raise NoRow(f"no row begins so: {row!r}")
    shape = SHAPES[parts[0]]
    if shape[-1] == "saying":
        # A saying has blanks of its own.
        parts = row.split(" ", len(shape))
    if len(parts) != len(shape) + 1:
        raise NoRow(f"too few parts or too many: {row!r}")
    for sort, part in zip(shape, parts[1:]):
        if sort in ("new", "old") and not is_name(part):
            raise NoRow(f"{part!r} is no name in {row!r}")
    return parts


def made(n, first, things):
    if first == "move":
        return changed(n, things[0], things[1])
    if first == "others":
        return others(n, things[0])
    if first == "common":
        return common(things[0], things[1])
    return things[0]


def ways_text(found):
    return " ".join([change_text(change) for change in found]) if found else "-"


def lead_text(least):
    return str(least[0]) + " " + leading_text(least[1])


def answer(n, first, things):
    if first == "least":
        return crowd_text(least_form(n, things[0]))
    if first == "ways":
        return ways_text(ways(n, things[0], things[1]))
    # Numbers are written as the tones of a crowd are, with a comma between each two.
    if first == "counts":
        return crowd_text(counts(n, things[0]))
    if first == "sums":
        return crowd_text(sums(n, things[0]))
    if first == "lead":
        return lead_text(least_leading(n, things[0], things[1]))
    if first == "saying":
        return change_text(things[0])
    return crowd_text(things[0])


class Desk:
    def __init__(self, n):
        self.n = n
        self.named = {}
        self.keeper = Keeper(n)

    def say(self, row):
        parts = parted(row)
        shape = SHAPES[parts[0]]
        # From the left, so that of several refusals the first one is told, and ahead of all that is put.
        things = [self.meant(sort, part) for sort, part in zip(shape, parts[1:])]
        if shape[0] == "new":
            return self.put(things[0], made(self.n, parts[0], things[1:]))
        if parts[0] == "kind":
            return self.kind_text(things[0])
        return answer(self.n, parts[0], things)

    def meant(self, sort, part):
        if sort == "old":
            return self.crowd_named(part)
        if sort == "crowd":
            return read_crowd(self.n, part)
        if sort == "saying":
            return does(self.n, read_saying(self.n, part))
        return part

    def crowd_named(self, name):
        if name not in self.named:
            raise Unknown(f"{name!r} stands for nothing")
        return self.named[name]

    def put(self, name, crowd):
        self.named[name] = crowd
        return crowd_text(crowd)

    def kind_text(self, crowd):
        told = self.keeper.told(crowd)
        return str(told[0]) + " " + change_text(told[1])
