"""Wheels and crowds that the tests walk through, and plain checks of what is told."""

WHEELS = list(range(3, 25))
SMALL_WHEELS = list(range(3, 8))


def crowd_from_bits(n, bits):
    return tuple(tone for tone in range(n) if bits >> tone & 1)


def all_crowds(n):
    return [crowd_from_bits(n, bits) for bits in range(1 << n)]


def some_crowds(n):
    """The named edges of a wheel, and crowds of many sizes without any symmetry in mind."""
    edges = [
        (),
        tuple(range(n)),
        (0,),
        (n - 1,),
        (0, n // 2),
        (0, 1),
        tuple(range(0, n, 2)),
        tuple(range(1, n)),
        tuple(range(n // 2)),
    ]
    bits = 12345
    mixed = []
    for _ in range(12):
        # Fixed numbers that look mixed, so that every run tests the same crowds.
        bits = (bits * 1103515245 + 12345) % (1 << 31)
        mixed.append(crowd_from_bits(n, bits >> 5))
    return sorted(set(edges + mixed))


def is_whole(value):
    # bool stands under int, and a truth is no whole number.
    return type(value) is int


def is_crowd(n, value):
    return (
        type(value) is tuple
        and all(is_whole(tone) and 0 <= tone < n for tone in value)
        and all(a < b for a, b in zip(value, value[1:]))
    )


def is_change(n, value):
    return (
        type(value) is tuple
        and len(value) == 2
        and value[0] in ("turn", "mirror")
        and is_whole(value[1])
        and 0 <= value[1] < n
    )


def halves(n):
    """Chosen crowds of just n // 2 tones: together, spread, and mixed."""
    half = n // 2
    chosen = [tuple(range(half)), tuple(range(half, 2 * half)), tuple(range(0, 2 * half, 2))]
    for crowd in some_crowds(n):
        # Filled up or cut down to the size of a half, so that mixed crowds stay mixed.
        outside = tuple(tone for tone in range(n) if tone not in crowd)
        chosen.append(tuple(sorted((crowd + outside)[:half])))
    return sorted(set(chosen))


def all_sorts(n):
    return [(n, x, y) for x in range(1, n) for y in range(1, n - x)]


def some_sorts(n):
    """x and y unlike and the same, x + y just below n, and sorts by which not every root is reached."""
    chosen = [(1, 1), (1, 2), (2, 1), (1, n - 2), (n - 2, 1), (n // 3, n // 4), (n // 4, n // 3)]
    chosen += [(n // 3, n // 3), (n // 2, (n - 1) // 2), (2, 4), (n // 4, n // 4)]
    return sorted({(n, x, y) for x, y in chosen if x >= 1 and y >= 1 and x + y < n})


def chosen_sorts():
    """All sorts of the small wheels, chosen ones of the larger."""
    for n in WHEELS:
        for sort in all_sorts(n) if n in SMALL_WHEELS else some_sorts(n):
            yield sort


def all_chords(n):
    return [(root, way) for way in ("up", "down") for root in range(n)]


def words_up_to(length):
    """All words with at most so many letters, in the order of point 14."""
    found = [""]
    newest = [""]
    for _ in range(length):
        newest = [word + letter for word in newest for letter in "abc"]
        found.extend(newest)
    return found


def long_words():
    """Words of sixty letters, and of one letter less."""
    number = 12345
    letters = []
    for _ in range(60):
        # Fixed numbers that look mixed, so that every run tests the same words.
        number = (number * 1103515245 + 12345) % (1 << 31)
        letters.append("abc"[(number >> 16) % 3])
    mixed = "".join(letters)
    return ["a" * 60, "abc" * 20, "cb" * 30, "bc" * 30, "ab" * 29 + "c", mixed, mixed[::-1], mixed[1:]]


def is_chord(n, value):
    return (
        type(value) is tuple
        and len(value) == 2
        and is_whole(value[0])
        and 0 <= value[0] < n
        and value[1] in ("up", "down")
    )
