"""Leadings: cost and square (point 17), crossings (point 18), uncrossed step by step (point 19)."""

from tonemirror.wheel import distance, move, step


def cost(n, leading):
    return sum([distance(n, a, b) for a, b in leading])


def square(n, leading):
    return sum([move(n, a, b) ** 2 for a, b in leading])


def cross(n, one, other):
    # The step is c - a, because the first ones are rising tones. Of numbers beyond the wheel it still
    # is below n, so that uncrossing comes to an end with them too.
    apart = step(n, one[0], other[0]) + move(n, other[0], other[1]) - move(n, one[0], one[1])
    return apart < 0 or apart > n


def crossings(n, leading):
    found = []
    for i, one in enumerate(leading):
        found.extend([(i, j) for j in range(i + 1, len(leading)) if cross(n, one, leading[j])])
    return found


def exchanged(leading, i, j):
    # A new list, because the one ahead of it is told too.
    found = list(leading)
    found[i] = (leading[i][0], leading[j][1])
    found[j] = (leading[j][0], leading[i][1])
    return found


def uncrossed(n, leading):
    # A copy, because what was handed in stays the asker's.
    found = [list(leading)]
    crossing = crossings(n, leading)
    while crossing:
        found.append(exchanged(found[-1], crossing[0][0], crossing[0][1]))
        crossing = crossings(n, found[-1])
    return found
