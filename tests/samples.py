"""Wheels, crowds, chords, leadings and rows that the tests walk through, and plain checks of what is told."""

import functools
import itertools

WHEELS = list(range(3, 25))
SMALL_WHEELS = list(range(3, 8))


def crowd_from_bits(n, bits):
    return tuple(tone for tone in range(n) if bits >> tone & 1)


def all_crowds(n):
    return [crowd_from_bits(n, bits) for bits in range(1 << n)]


def some_crowds(n):
    """The named edges of a wheel, and crowds of many sizes without any symmetry in mind."""
    edges = [
        (),
        tuple(range(n)),
        (0,),
        (n - 1,),
        (0, n // 2),
        (0, 1),
        tuple(range(0, n, 2)),
        tuple(range(1, n)),
        tuple(range(n // 2)),
    ]
    bits = 12345
    mixed = []
    for _ in range(12):
        # Fixed numbers that look mixed, so that every run tests the same crowds.
        bits = (bits * 1103515245 + 12345) % (1 << 31)
        mixed.append(crowd_from_bits(n, bits >> 5))
    return sorted(set(edges + mixed))


def is_whole(value):
    # bool stands under int, and a truth is no whole number.
    return type(value) is int


def is_crowd(n, value):
    return (
        type(value) is tuple
        and all(is_whole(tone) and 0 <= tone < n for tone in value)
        and all(a < b for a, b in zip(value, value[1:]))
    )


def is_change(n, value):
    return (
        type(value) is tuple
        and len(value) == 2
        and value[0] in ("turn", "mirror")
        and is_whole(value[1])
        and 0 <= value[1] < n
    )


def halves(n):
    """Chosen crowds of just n // 2 tones: together, spread, and mixed."""
    half = n // 2
    chosen = [tuple(range(half)), tuple(range(half, 2 * half)), tuple(range(0, 2 * half, 2))]
    for crowd in some_crowds(n):
        # Filled up or cut down to the size of a half, so that mixed crowds stay mixed.
        outside = tuple(tone for tone in range(n) if tone not in crowd)
        chosen.append(tuple(sorted((crowd + outside)[:half])))
    return sorted(set(chosen))


def all_sorts(n):
    return [(n, x, y) for x in range(1, n) for y in range(1, n - x)]


def some_sorts(n):
    """x and y unlike and the same, x + y just below n, and sorts by which not every root is reached."""
    chosen = [(1, 1), (1, 2), (2, 1), (1, n - 2), (n - 2, 1), (n // 3, n // 4), (n // 4, n // 3)]
    chosen += [(n // 3, n // 3), (n // 2, (n - 1) // 2), (2, 4), (n // 4, n // 4)]
    return sorted({(n, x, y) for x, y in chosen if x >= 1 and y >= 1 and x + y < n})


def chosen_sorts():
    """All sorts of the small wheels, chosen ones of the larger."""
    for n in WHEELS:
        for sort in all_sorts(n) if n in SMALL_WHEELS else some_sorts(n):
            yield sort


def all_chords(n):
    return [(root, way) for way in ("up", "down") for root in range(n)]


def words_up_to(length):
    """All words with at most so many letters, in the order of point 14."""
    found = [""]
    newest = [""]
    for _ in range(length):
        newest = [word + letter for word in newest for letter in "abc"]
        found.extend(newest)
    return found


def long_words():
    """Words of sixty letters, and of one letter less."""
    number = 12345
    letters = []
    for _ in range(60):
        # Fixed numbers that look mixed, so that every run tests the same words.
        number = (number * 1103515245 + 12345) % (1 << 31)
        letters.append("abc"[(number >> 16) % 3])
    mixed = "".join(letters)
    return ["a" * 60, "abc" * 20, "cb" * 30, "bc" * 30, "ab" * 29 + "c", mixed, mixed[::-1], mixed[1:]]


def is_chord(n, value):
    return (
        type(value) is tuple
        and len(value) == 2
        and is_whole(value[0])
        and 0 <= value[0] < n
        and value[1] in ("up", "down")
    )


def mixed_numbers(many):
    """Fixed numbers that look mixed, so that every run tests the same things."""
    number = 12345
    found = []
    for _ in range(many):
        number = (number * 1103515245 + 12345) % (1 << 31)
        found.append(number >> 8)
    return found


def well_mixed_numbers(many, start):
    """Like mixed_numbers, for each start others; here the last bits look mixed too."""
    number = start
    found = []
    for _ in range(many):
        number = (number * 6364136223846793005 + 1442695040888963407) % (1 << 64)
        found.append(number >> 33)
    return found


def shuffled(things, start):
    """The things in another order, for each start another one."""
    left = list(things)
    found = []
    for number in mixed_numbers(start + len(left))[start:]:
        found.append(left.pop(number % len(left)))
    return found


def all_rows(n):
    return list(itertools.permutations(range(n)))


def some_rows(n):
    """Rising, falling, by steps that go round the wheel, rows that two forms make the same, and mixed ones."""
    chosen = [tuple(range(n)), tuple(range(n - 1, -1, -1)), tuple(range(1, n)) + (0,)]
    for k in range(2, n):
        by_steps = tuple(k * place % n for place in range(n))
        if len(set(by_steps)) == n:
            chosen.append(by_steps)
    if n % 2 == 0:
        # Its second half, read backwards, is its first half turned half way round.
        chosen.append(tuple(range(n // 2)) + tuple(range(n - 1, n // 2 - 1, -1)))
    chosen += [tuple(shuffled(range(n), start)) for start in range(4)]
    return sorted(set(chosen))


def all_leadings(n):
    return [
        list(zip(one, seconds))
        for one in all_crowds(n)
        for seconds in itertools.permutations(range(n), len(one))
    ]


def some_leadings(n):
    """Of no pair, of one pair, of all tones, of pairs half way round, and mixed ones of many sizes."""
    half = n // 2
    chosen = [
        [],
        [(0, 0)],
        [(0, half)],
        [(n - 1, (half - 1) % n)],
        [(0, n - 1), (n - 1, 0)],
        [(tone, (tone + half) % n) for tone in range(n)],
        [(tone, (tone + half) % n) for tone in range(half)],
    ]
    for k in (0, 1, half, n - 1):
        chosen.append([(tone, (k - tone) % n) for tone in range(n)])
    chosen += [list(zip(range(n), row)) for row in some_rows(n)[:8]]
    for start, size in enumerate([2, 3, half, half + 1, n - 1, n]):
        firsts = sorted(shuffled(range(n), start)[:size])
        chosen.append(list(zip(firsts, shuffled(range(n), start + 7)[:size])))
    return chosen


def chosen_leadings():
    """Wheels and leadings: all leadings of wheels up to 5 tones, chosen ones of the larger."""
    for n in WHEELS:
        for leading in all_leadings(n) if n <= 5 else some_leadings(n):
            yield n, leading


def is_leading(n, value):
    return (
        type(value) is list
        and all(type(pair) is tuple and len(pair) == 2 for pair in value)
        and is_crowd(n, tuple(a for a, b in value))
        and is_crowd(n, tuple(sorted(b for a, b in value)))
    )


@functools.lru_cache(maxsize=None)
def move_by_hand(n, one, other):
    """Point 4: of the ways from a tone to another the shortest, upwards half way round."""
    found = [far for far in range(-n, n + 1) if (one + far - other) % n == 0 and -n < 2 * far <= n]
    if len(found) != 1:
        raise AssertionError((n, one, other))
    return found[0]


def distance_by_hand(n, one, other):
    return min(abs(one - other), n - abs(one - other))


def counts_by_hand(n, crowd):
    found = [distance_by_hand(n, one, other) for one, other in itertools.combinations(crowd, 2)]
    return tuple(found.count(d) for d in range(1, n // 2 + 1))


def image_of_tones(n, change):
    """Point 5, all tones at once."""
    if change[0] == "turn":
        return [(tone + change[1]) % n for tone in range(n)]
    return [(change[1] - tone) % n for tone in range(n)]


@functools.lru_cache(maxsize=None)
def changes_and_images(n):
    listed = [(word, k) for word in ("turn", "mirror") for k in range(n)]
    return [(change, image_of_tones(n, change)) for change in listed]


@functools.lru_cache(maxsize=None)
def found_ways(n, one, other):
    return [change for change, image in changes_and_images(n) if {image[tone] for tone in one} == set(other)]


def ways_by_hand(n, one, other):
    """Point 8, from the tones that each change makes of all tones."""
    # A change leaves as many tones as there were.
    return list(found_ways(n, one, other)) if len(one) == len(other) else []
