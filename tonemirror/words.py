"""Words of the three changes of chords: effect and shortest (point 14), rules and steps (point 15)."""

from tonemirror.chords import led

LETTERS = "abc"
# What a word makes of this one chord tells what it makes of all.
START = (0, "up")


def effect(sort, word):
    chord = led(sort, START, word)
    return (1 if chord[1] == "down" else 0, chord[0])


def shortest_words(sort):
    # A shortest word without its last letter is a shortest one too, so only those are made longer;
    # in order, so that the first word that leads to a chord is the shortest one.
    found = {START: ""}
    newest = [START]
    while newest:
        reached = []
        for chord in newest:
            for letter in LETTERS:
                following = led(sort, chord, letter)
                if following not in found:
                    found[following] = found[chord] + letter
                    reached.append(following)
        newest = reached
    return found


def shortest(sort, word):
    return shortest_words(sort)[led(sort, START, word)]


def rules(sort):
    known = shortest_words(sort)
    found = []
    # The shortest words come in order, and so do the left ones that are made of them.
    for chord, word in known.items():
        for letter in LETTERS:
            right = known[led(sort, chord, letter)]
            if right != word + letter:
                found.append((word + letter, right))
    return found


def next_word(rights, word):
    for length in range(1, len(word) + 1):
        front = word[:length]
        if front in rights:
            return rights[front] + word[length:]
    return word


def steps(sort, word):
    rights = dict(rules(sort))
    found = [word]
    following = next_word(rights, word)
    # A rule never leaves a word as it was, so only a shortest word is followed by itself.
    while following != found[-1]:
        found.append(following)
        following = next_word(rights, following)
    return found
