"""Sayings as texts, and read from texts (point 25)."""

from tonemirror.errors import NoText
from tonemirror.sayings import altogether, depth
from tonemirror.texts import change_text, read_change

FIGURES = "0123456789"
DEEPEST = 8
MOST = 60


def saying_text(saying):
    if saying[0] == "change":
        return change_text(saying[1])
    if saying[0] == "row":
        return "(" + " ".join([saying_text(inner) for inner in saying[1]]) + ")"
    # A number belongs to all that stands ahead of it, the undos too, and there is one number at most.
    if saying[1][0] == "times":
        raise NoText("neither an undo nor a times can be written straight of a times")
    if saying[0] == "times":
        return saying_text(saying[1]) + "*" + str(saying[2])
    return "~" + saying_text(saying[1])


def end_of_figures(text, place):
    while place < len(text) and text[place] in FIGURES:
        place += 1
    return place


def read_many(figures):
    if figures == "" or (figures.startswith("0") and figures != "0"):
        raise NoText(f"no number without a nought ahead of another figure: {figures!r}")
    # The length first, because int takes no text of some thousand figures.
    if len(figures) > 31 or int(figures) > 10 ** 30:
        raise NoText(f"a saying is done at most 10 ** 30 times: {figures!r}")
    return int(figures)


# The functions below answer a saying and the place in the text behind it. Their room is how many
# sayings may still stand within one another, so that the program itself never goes deeper either.


def read_row_behind_bracket(n, text, place, room):
    if text.startswith(")", place):
        return (("row", ()), place + 1)
    found = read_whole(n, text, place, room)
    sayings = [found[0]]
    while text.startswith(" ", found[1]):
        found = read_whole(n, text, found[1] + 1, room)
        sayings.append(found[0])
    if not text.startswith(")", found[1]):
        raise NoText(f"a row of sayings does not shut: {text!r}")
    return (("row", tuple(sayings)), found[1] + 1)


def read_without_number(n, text, place, room):
    if room == 0:
        raise NoText(f"more than {DEEPEST} sayings within one another: {text!r}")
    if text.startswith("~", place):
        found = read_without_number(n, text, place + 1, room - 1)
        return (("undo", found[0]), found[1])
    if text.startswith("(", place):
        return read_row_behind_bracket(n, text, place + 1, room - 1)
    end = end_of_figures(text, place + 1)
    return (("change", read_change(n, text[place:end])), end)


def read_whole(n, text, place, room):
    found = read_without_number(n, text, place, room)
    if not text.startswith("*", found[1]):
        return found
    begin = found[1] + 1
    end = end_of_figures(text, begin)
    return (("times", found[0], read_many(text[begin:end])), end)


def read_saying(n, text):
    found = read_whole(n, text, 0, DEEPEST)
    if found[1] != len(text):
        raise NoText(f"something stands behind the saying: {text!r}")
    # The room tells nothing of the times, which are seen only behind what they are of.
    if depth(found[0]) > DEEPEST or altogether(found[0]) > MOST:
        raise NoText(f"more than {DEEPEST} sayings within one another, or than {MOST} altogether: {text!r}")
    return found[0]
