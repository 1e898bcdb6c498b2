"""The Keeper: crowds and their kinds, by numbers in the order in which they are told (point 26)."""

from tonemirror.crowds import counts, crowd_of
from tonemirror.errors import Unknown
from tonemirror.kinds import least_form, ways


class Keeper:
    def __init__(self, n):
        self.n = n
        self.crowds = []
        # Of each kind the numbers of its crowds, and of each least form the number of its kind.
        self.rolls = []
        self.kinds = {}
        # Of each size and counts the numbers of the kinds that have them.
        self.groups = {}

    def told(self, crowd):
        # Numbers beyond the wheel are taken by their rests here too, else no way would lead to them.
        crowd = crowd_of(self.n, crowd)
        kind = self.kind_of(crowd)
        self.rolls[kind].append(len(self.crowds))
        self.crowds.append(crowd)
        first = self.crowds[self.rolls[kind][0]]
        return (kind, ways(self.n, first, crowd)[0])

    def kind_of(self, crowd):
        form = least_form(self.n, crowd)
        if form not in self.kinds:
            self.new_kind(form)
        return self.kinds[form]

    def new_kind(self, form):
        kind = len(self.rolls)
        self.kinds[form] = kind
        self.rolls.append([])
        # The size too, because none and one tone have the same counts.
        self.groups.setdefault((len(form), counts(self.n, form)), []).append(kind)

    def many(self):
        return len(self.crowds)

    def members(self, kind):
        # Below 0 too, where a list would count from its end.
        if kind < 0 or kind >= len(self.rolls):
            # Without the number, which may have more figures than a text can be made of.
            raise Unknown("no kind has this number")
        return list(self.rolls[kind])

    def families(self):
        # The groups came in the order of their first kinds, and so they are told.
        return [list(group) for group in self.groups.values() if len(group) > 1]

    def crowd_at(self, number):
        if number < 0 or number >= len(self.crowds):
            raise Unknown("no crowd has this number")
        return self.crowds[number]

    def between(self, one, other):
        return ways(self.n, self.crowd_at(one), self.crowd_at(other))
