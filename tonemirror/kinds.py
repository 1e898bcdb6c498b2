"""Crowds that are the same but for a change: ways, images, least form (point 8)."""

from tonemirror.crowds import changed
from tonemirror.wheel import changes


def before(one, other):
    # The number of tones counts first, which the order of tuples does not know.
    if len(one) != len(other):
        return len(one) < len(other)
    return one < other


def ways(n, one, other):
    return [change for change in changes(n) if changed(n, one, change) == other]


def images(n, crowd):
    # All images have as many tones, so here the order of tuples is that of before.
    return sorted(set([changed(n, crowd, change) for change in changes(n)]))


def least_form(n, crowd):
    return images(n, crowd)[0]
