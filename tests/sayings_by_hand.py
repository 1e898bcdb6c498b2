"""Sayings that the tests walk through, and what they do and how they are written, worked out another way."""

import functools
import re

from tests.samples import changes_and_images, image_of_tones, mixed_numbers
from tonemirror.wheel import changes

MOST_TIMES = 10 ** 30


def turn(k):
    return ("change", ("turn", k))


def mirror(k):
    return ("change", ("mirror", k))


def row(*sayings):
    return ("row", sayings)


def times(saying, many):
    return ("times", saying, many)


def undo(saying):
    return ("undo", saying)


def undone(saying, many):
    """An undo of an undo, and so on."""
    for _ in range(many):
        saying = undo(saying)
    return saying


def in_rows(saying, many):
    """A row of a row, and so on."""
    for _ in range(many):
        saying = row(saying)
    return saying


def inner(saying):
    """Sayings straight within a saying."""
    if saying[0] == "change":
        return []
    return list(saying[1]) if saying[0] == "row" else [saying[1]]


def all_within(saying):
    """Itself and all sayings within it, without any going deeper in the program."""
    found = []
    left = [saying]
    while left:
        found.append(left.pop())
        left.extend(inner(found[-1]))
    return found


def layers(saying):
    """How many sayings stand within one another, counted layer by layer."""
    many = 0
    layer = [saying]
    while layer:
        many += 1
        layer = [part for one in layer for part in inner(one)]
    return many


def can_be_written(saying):
    return not any(
        one[0] in ("undo", "times") and one[1][0] == "times" for one in all_within(saying)
    )


def one_then_other(one, other):
    return [other[tone] for tone in one]


def power(n, image, many):
    """By squares, because nobody can wait for 10 ** 30 steps."""
    found = list(range(n))
    while many:
        if many % 2:
            found = one_then_other(found, image)
        image = one_then_other(image, image)
        many //= 2
    return found


def image_by_hand(n, saying):
    """The tones that a saying makes of all tones, in their order."""
    if saying[0] == "change":
        return image_of_tones(n, saying[1])
    if saying[0] == "row":
        found = list(range(n))
        for part in saying[1]:
            found = one_then_other(found, image_by_hand(n, part))
        return found
    image = image_by_hand(n, saying[1])
    if saying[0] == "times":
        return power(n, image, saying[2])
    return [image.index(tone) for tone in range(n)]


def change_by_hand(n, saying):
    """Of three tones on, no two changes make the same of all tones."""
    image = image_by_hand(n, saying)
    found = [change for change, made in changes_and_images(n) if made == image]
    if len(found) != 1:
        raise AssertionError((n, saying))
    return found[0]


def text_by_hand(saying):
    """Point 25, for sayings that can be written."""
    if saying[0] == "change":
        return {"turn": "t", "mirror": "m"}[saying[1][0]] + "%d" % saying[1][1]
    if saying[0] == "row":
        return "(%s)" % " ".join(map(text_by_hand, saying[1]))
    if saying[0] == "times":
        return "%s*%d" % (text_by_hand(saying[1]), saying[2])
    return "~%s" % text_by_hand(saying[1])


def chosen_times(n):
    return [0, 1, 2, 3, n - 1, n, n + 1, 2 * n, 10 ** 29 + 7, MOST_TIMES - 1, MOST_TIMES]


def leaf(n, number):
    return row() if number % 7 == 6 else ("change", changes(n)[number % (2 * n)])


def grown(n, many, room, numbers, written, straight=False):
    """A mixed saying of so many altogether, at most room within one another, by numbers from the list's end.

    Where it is to be written, no times stands straight within an undo or a times."""
    number = numbers.pop()
    if many == 1:
        return leaf(n, number)
    # In the last layer but one only a row has room for more than one.
    sort = numbers.pop() % 4 if room > 2 or many == 2 else 3
    if sort == 0 and not (written and straight):
        return times(grown(n, many - 1, room - 1, numbers, written, True), chosen_times(n)[number % 11])
    if sort in (0, 1):
        return undo(grown(n, many - 1, room - 1, numbers, written, True))
    parts = []
    left = many - 1
    while left:
        size = numbers.pop() % left + 1 if room > 2 else 1
        parts.append(grown(n, size, room - 1, numbers, written))
        left -= size
    return ("row", tuple(parts))


@functools.lru_cache(maxsize=None)
def mixed_sayings(n, many=40, written=False):
    """Mixed sayings of 1 to 60 sayings altogether, every fourth of just 60, at most eight within one another."""
    numbers = mixed_numbers(20000)
    # Another beginning for each wheel.
    numbers = numbers[: len(numbers) - 13 * n]
    sizes = [60 if place % 4 == 3 else numbers.pop() % 60 + 1 for place in range(many)]
    return tuple(grown(n, size, 8, numbers, written) for size in sizes)


def written_up_to(length, numbers, changes_and_texts):
    """All sayings whose text has at most so many signs, by their texts; bounds of point 24 do not count here.

    Built from short to long: what can stand ahead of a number, all sayings, and the insides of rows."""
    plain = {size: {} for size in range(length + 1)}
    whole = {size: {} for size in range(length + 1)}
    inside = {size: {} for size in range(-1, length + 1)}
    inside[0][""] = ()
    for size in range(1, length + 1):
        for change, text in changes_and_texts:
            if len(text) == size:
                plain[size][text] = ("change", change)
        for text, saying in plain[size - 1].items():
            plain[size]["~" + text] = undo(saying)
        if size >= 2:
            for text, sayings in inside[size - 2].items():
                plain[size]["(" + text + ")"] = ("row", sayings)
        whole[size].update(plain[size])
        for number in numbers:
            ahead = size - 1 - len(str(number))
            for text, saying in plain[ahead].items() if ahead > 0 else []:
                whole[size][text + "*" + str(number)] = times(saying, number)
        for text, saying in whole[size].items():
            inside[size][text] = (saying,)
        for first in range(1, size - 1):
            for text, saying in whole[first].items():
                for rest, sayings in inside[size - 1 - first].items():
                    if sayings:
                        inside[size][text + " " + rest] = (saying,) + sayings
    return {text: saying for size in whole for text, saying in whole[size].items()}


def add_saying(rows, undos, saying):
    for _ in range(undos.pop()):
        saying = undo(saying)
    undos.append(0)
    rows[-1].append(saying)


def read_by_hand(n, text):
    """The saying that a text is written of, or None; sign by sign, with lists of the rows that are open."""
    found = re.findall(r"[tm][0-9]+|\*[0-9]+|[()~ ]", text)
    if "".join(found) != text:
        return None
    rows = [[]]
    undos = [0]
    # What stands ahead: nothing that is done, a bracket that was opened, a saying, or a number.
    ahead = "nothing"
    for part in found:
        if part == "~" and ahead in ("nothing", "bracket"):
            undos[-1] += 1
            ahead = "nothing"
        elif part == "(" and ahead in ("nothing", "bracket"):
            rows.append([])
            undos.append(0)
            ahead = "bracket"
        elif part[0] in "tm" and ahead in ("nothing", "bracket") and part[1:] in [str(k) for k in range(n)]:
            add_saying(rows, undos, turn(int(part[1:])) if part[0] == "t" else mirror(int(part[1:])))
            ahead = "saying"
        elif part == ")" and ahead != "nothing" and len(rows) > 1:
            undos.pop()
            add_saying(rows[:-1], undos, row(*rows[-1]))
            rows.pop()
            ahead = "saying"
        elif part[0] == "*" and ahead == "saying" and re.fullmatch(r"\*(0|[1-9][0-9]{0,29}|10{30})", part):
            rows[-1][-1] = times(rows[-1][-1], int(part[1:]))
            ahead = "number"
        elif part == " " and ahead in ("saying", "number") and len(rows) > 1:
            ahead = "nothing"
        else:
            return None
    if len(rows) > 1 or ahead not in ("saying", "number"):
        return None
    saying = rows[0][0]
    return saying if layers(saying) <= 8 and len(all_within(saying)) <= 60 else None
