"""The wheel of n tones (point 4) and its changes (point 5)."""


def step(n, one, other):
    return (other - one) % n


def distance(n, one, other):
    return min(step(n, one, other), step(n, other, one))


def move(n, one, other):
    upwards = step(n, one, other)
    # At most, not below: half way round is a move upwards.
    if 2 * upwards <= n:
        return upwards
    return upwards - n


def done(n, change, tone):
    if change[0] == "turn":
        return (tone + change[1]) % n
    return (change[1] - tone) % n


def changes(n):
    turns = [("turn", k) for k in range(n)]
    mirrors = [("mirror", k) for k in range(n)]
    return turns + mirrors


def then(n, one, other):
    # A change's number is the tone that it makes of 0, so the number of both
    # together is what the other makes of the one's number.
    k = done(n, other, one[1])
    # A second mirror undoes the turning round of the first.
    if one[0] == other[0]:
        return ("turn", k)
    return ("mirror", k)


def back(n, change):
    if change[0] == "turn":
        return ("turn", (-change[1]) % n)
    # A mirror leads back from itself; the rest, because every told change keeps to 0 .. n - 1.
    return ("mirror", change[1] % n)
