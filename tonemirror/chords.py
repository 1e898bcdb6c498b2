"""Chords of three tones (point 12), what words make of them (points 13, 14), and changes of the wheel (point 16)."""

from tonemirror.wheel import done


def tones(sort, chord):
    n = sort[0]
    root = chord[0]
    middle = sort[1] if chord[1] == "up" else sort[2]
    return (root, (root + middle) % n, (root + sort[1] + sort[2]) % n)


def other_way(way):
    return "down" if way == "up" else "up"


def reach(sort, letter):
    if letter == "a":
        return 0
    if letter == "b":
        return sort[1]
    return -sort[2]


def letter_done(sort, chord, letter):
    # A down chord goes as far backwards, so that a letter done twice leads back.
    far = reach(sort, letter) if chord[1] == "up" else -reach(sort, letter)
    return ((chord[0] + far) % sort[0], other_way(chord[1]))


def led(sort, chord, word):
    for letter in word:
        chord = letter_done(sort, chord, letter)
    return chord


def chord_changed(sort, chord, change):
    if change[0] == "turn":
        return (done(sort[0], change, chord[0]), chord[1])
    # A mirror turns the order of the tones round, so the last one becomes the root.
    return (done(sort[0], change, tones(sort, chord)[2]), other_way(chord[1]))
