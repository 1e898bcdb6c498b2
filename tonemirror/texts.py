"""Crowds, rows, changes and leadings as texts, and read from texts (point 23)."""

from tonemirror.crowds import crowd_of
from tonemirror.errors import NoText


def joined(parts):
    return ",".join(parts) if parts else "-"


def crowd_text(crowd):
    return joined([str(tone) for tone in crowd])


def change_text(change):
    letter = "t" if change[0] == "turn" else "m"
    return letter + str(change[1])


def leading_text(leading):
    return joined([f"{a}>{b}" for a, b in leading])


def read_tone(n, text):
    # Sought among what is written, not made by int, which takes blanks, signs, noughts ahead
    # and figures that are no ASCII ones too.
    written = [str(tone) for tone in range(n)]
    if text not in written:
        raise NoText(f"no tone of a wheel of {n} tones: {text!r}")
    return written.index(text)


def read_tones(n, text):
    return tuple([read_tone(n, part) for part in text.split(",")])


def read_crowd(n, text):
    if text == "-":
        return ()
    tones = read_tones(n, text)
    if tones != crowd_of(n, tones):
        raise NoText(f"the tones of a crowd are rising, each once: {text!r}")
    return tones


def read_row(n, text):
    tones = read_tones(n, text)
    if sorted(tones) != list(range(n)):
        raise NoText(f"a row is of all tones, each once: {text!r}")
    return tones


def read_change(n, text):
    tone = read_tone(n, text[1:])
    if text.startswith("t"):
        return ("turn", tone)
    if text.startswith("m"):
        return ("mirror", tone)
    raise NoText(f"a change begins with t or m: {text!r}")
