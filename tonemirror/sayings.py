"""Sayings: trees of changes, rows, times and undos, and the one change that each of them does (point 24)."""

from tonemirror.wheel import back, then

# What a row without sayings does, and nought times of anything.
STILL = ("turn", 0)


def repeated(n, change, many):
    if change[0] == "turn":
        return ("turn", change[1] * many % n)
    # A mirror leads back from itself, so each two of them leave nothing to do.
    return change if many % 2 == 1 else STILL


def done_in_order(n, sayings):
    found = STILL
    for saying in sayings:
        found = then(n, found, does(n, saying))
    return found


def does(n, saying):
    if saying[0] == "change":
        # Put together with nothing else, because then tells every number by its rest.
        return then(n, STILL, saying[1])
    if saying[0] == "row":
        return done_in_order(n, saying[1])
    change = does(n, saying[1])
    if saying[0] == "times":
        return repeated(n, change, saying[2])
    return back(n, change)


def straight_within(saying):
    if saying[0] == "change":
        return ()
    if saying[0] == "row":
        return saying[1]
    return (saying[1],)


def depth(saying):
    return 1 + max([depth(inner) for inner in straight_within(saying)], default=0)


def altogether(saying):
    return 1 + sum([altogether(inner) for inner in straight_within(saying)])
