"""Wheels and crowds that the tests walk through, and plain checks of what is told."""

WHEELS = list(range(3, 25))
SMALL_WHEELS = list(range(3, 8))


def crowd_from_bits(n, bits):
    return tuple(tone for tone in range(n) if bits >> tone & 1)


def all_crowds(n):
    return [crowd_from_bits(n, bits) for bits in range(1 << n)]


def some_crowds(n):
    """The named edges of a wheel, and crowds of many sizes without any symmetry in mind."""
    edges = [
        (),
        tuple(range(n)),
        (0,),
        (n - 1,),
        (0, n // 2),
        (0, 1),
        tuple(range(0, n, 2)),
        tuple(range(1, n)),
        tuple(range(n // 2)),
    ]
    bits = 12345
    mixed = []
    for _ in range(12):
        # Fixed numbers that look mixed, so that every run tests the same crowds.
        bits = (bits * 1103515245 + 12345) % (1 << 31)
        mixed.append(crowd_from_bits(n, bits >> 5))
    return sorted(set(edges + mixed))


def is_whole(value):
    # bool stands under int, and a truth is no whole number.
    return type(value) is int


def is_crowd(n, value):
    return (
        type(value) is tuple
        and all(is_whole(tone) and 0 <= tone < n for tone in value)
        and all(a < b for a, b in zip(value, value[1:]))
    )


def is_change(n, value):
    return (
        type(value) is tuple
        and len(value) == 2
        and value[0] in ("turn", "mirror")
        and is_whole(value[1])
        and 0 <= value[1] < n
    )
