"""The counts of the others (point 9), pairs at a distance and matched halves (point 10)."""

from tonemirror.crowds import crowd_of, others
from tonemirror.errors import NoHalf


def gain(n, size, d):
    # Half way round each two tones are counted from one side alone, so only half as much is gained.
    if 2 * d == n:
        return n // 2 - size
    return n - 2 * size


def counts_of_others(n, size, numbers):
    return tuple([number + gain(n, size, d) for d, number in enumerate(numbers, start=1)])


def pairs_at(n, crowd, d):
    pairs = [(tone, (tone + d) % n) for tone in crowd if (tone + d) % n in crowd]
    if 2 * d == n:
        # Half way round each two tones come twice, once from either of them.
        return [pair for pair in pairs if pair[0] < pair[1]]
    return pairs


def is_half(n, crowd):
    # Half as many numbers are not enough: what is no crowd is no half either.
    return n % 2 == 0 and len(crowd) == n // 2 and crowd_of(n, crowd) == crowd


def matched(n, half, d):
    if not is_half(n, half):
        raise NoHalf("a half is a crowd of just half of the tones of a wheel with an even number of tones")
    return list(zip(pairs_at(n, half, d), pairs_at(n, others(n, half), d)))
