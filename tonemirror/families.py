"""The kinds of a size, and twins: unlike kinds with the same counts (point 11)."""

from tonemirror.crowds import counts
from tonemirror.kinds import images


def longer_by_one(crowds, limit):
    found = []
    for crowd in crowds:
        first = crowd[-1] + 1 if crowd else 0
        found.extend([crowd + (tone,) for tone in range(first, limit)])
    return found


def crowds_of_size(n, size):
    # Below 0 tones there is not even the crowd of none.
    found = [()] if size >= 0 else []
    for place in range(size):
        # The tones of the places behind this one need room above its own.
        found = longer_by_one(found, n - size + place + 1)
    return found


def kinds_of(n, size):
    found = []
    seen = {}
    for crowd in crowds_of_size(n, size):
        # The walk is in order, so of alike crowds the least form is met first.
        if crowd not in seen:
            found.append(crowd)
            for image in images(n, crowd):
                seen[image] = True
    return found


def twins_of_size(n, size):
    forms = kinds_of(n, size)
    numbers = [counts(n, form) for form in forms]
    found = []
    for place, one in enumerate(forms):
        # Only the kinds behind this one, so that each two are told once.
        for behind in range(place + 1, len(forms)):
            if numbers[behind] == numbers[place]:
                found.append((one, forms[behind]))
    return found


def twins(n, most):
    found = []
    for size in range(most + 1):
        found.extend(twins_of_size(n, size))
    return found
