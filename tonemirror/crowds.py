"""Crowds of tones (point 6), their counts and their sums (point 7)."""

from tonemirror.wheel import distance, done


def crowd_of(n, numbers):
    return tuple(sorted(set([number % n for number in numbers])))


def changed(n, crowd, change):
    # Changed tones come out of order, and a crowd is rising.
    return crowd_of(n, [done(n, change, tone) for tone in crowd])


def others(n, crowd):
    return tuple([tone for tone in range(n) if tone not in crowd])


def common(one, other):
    return tuple([tone for tone in one if tone in other])


def distances(n, crowd):
    found = []
    for place, one in enumerate(crowd):
        # Only the tones ahead of this one, so that each two are counted once.
        found.extend([distance(n, one, other) for other in crowd[:place]])
    return found


def counts(n, crowd):
    found = distances(n, crowd)
    return tuple([found.count(d) for d in range(1, n // 2 + 1)])


def sums(n, crowd):
    found = []
    for one in crowd:
        # All tones, itself too: (a, a), (a, b) and (b, a) all count here.
        found.extend([(one + other) % n for other in crowd])
    return tuple([found.count(k) for k in range(n)])
