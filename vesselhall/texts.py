"""Texts: how the turnings of a vessel are written, and how a vessel is read from words and texts."""

from vesselhall.errors import NoText
from vesselhall.fractions import fraction
from vesselhall.vessels import made, stuffs_of

# What is written ahead of a stuff's word, and how many pieces it tells.
PIECES_WRITTEN = {"": 1, "2": 2, "3": 3}


def stuff_text(word, pieces):
    if pieces == 1:
        return word
    return f"{pieces} {word}"


def heap_text(stuffs, heap):
    parts = [stuff_text(word, pieces) for word, pieces in zip(stuffs, heap) if pieces > 0]
    if len(parts) == 0:
        return "0"
    return " + ".join(parts)


def pace_text(pace):
    top = pace[0]
    bottom = pace[1]
    if bottom == 1:
        return f"{top}"
    return f"{top}/{bottom}"


def turning_text(stuffs, turning):
    one = heap_text(stuffs, turning[0])
    two = heap_text(stuffs, turning[1])
    pace = pace_text(turning[2])
    return f"{one} -> {two} @ {pace}"


def written(vessel):
    return [turning_text(vessel[0], turning) for turning in vessel[1]]


def heap_guessed(stuffs, text):
    pieces = {}
    for part in text.split(" + "):
        cut = part.rpartition(" ")
        pieces[cut[2]] = PIECES_WRITTEN.get(cut[0], 0)
    return tuple([pieces.get(word, 0) for word in stuffs])


def number_guessed(text):
    # int takes more than figures and fails on the rest; no number of a pace is 0, so 0 stands for none.
    if text == "" or not all(["0" <= sign <= "9" for sign in text]):
        return 0
    return int(text)


def pace_guessed(text):
    cut = text.partition("/")
    top = number_guessed(cut[0])
    bottom = 1 if cut[1] == "" else number_guessed(cut[2])
    if top == 0 or bottom == 0:
        return None
    return fraction(top, bottom)


def turning_read(stuffs, text):
    cut = text.partition(" -> ")
    rest = cut[2].partition(" @ ")
    pace = pace_guessed(rest[2])
    if pace is None:
        return None
    turning = (heap_guessed(stuffs, cut[0]), heap_guessed(stuffs, rest[0]), pace)
    # The guesses are free with wrong texts: only a turning's own text is written so again.
    if turning_text(stuffs, turning) != text:
        return None
    return turning


def read(words, texts):
    stuffs = stuffs_of(words)
    rows = []
    for at, text in enumerate(texts):
        turning = turning_read(stuffs, text)
        if turning is None:
            raise NoText(at)
        rows.append(turning)
    return made(stuffs, rows)
