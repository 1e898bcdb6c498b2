"""Rows of all tones: their forms (point 21), their square and the forms that fit them (point 22)."""

from tonemirror.crowds import common
from tonemirror.errors import NoHalf
from tonemirror.wheel import changes, done, step


def formed(n, row, form):
    tones = [done(n, form[0], tone) for tone in row]
    if form[1] == "back":
        return tuple(reversed(tones))
    return tuple(tones)


def forms(n):
    onwards = [(change, "on") for change in changes(n)]
    backwards = [(change, "back") for change in changes(n)]
    return onwards + backwards


def forms_between(n, row, other):
    return [form for form in forms(n) if formed(n, row, form) == other]


def square_of(n, row):
    # Each tone in its turn is brought to where the row begins.
    return [formed(n, row, (("turn", step(n, tone, row[0])), "on")) for tone in row]


def fits(n, row, form):
    half = n // 2
    return common(formed(n, row, form)[:half], row[:half]) == ()


def fitting(n, row):
    if n % 2 != 0:
        raise NoHalf("a row of an odd number of tones has no half")
    return [form for form in forms(n) if fits(n, row, form)]
