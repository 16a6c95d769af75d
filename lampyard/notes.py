"""Yards written as texts, and read from them."""

from lampyard.errors import NoNote
from lampyard.yard import MOST_LAMPS, Yard


def shown_lamp(yard, lamp):
    word = "shy" if yard.is_shy(lamp) else "lamp"
    return " ".join([word] + [str(other) for other in range(lamp) if yard.is_tied(lamp, other)])


def shown(yard):
    return "\n".join([shown_lamp(yard, lamp) for lamp in range(yard.many)])


def take_lamp(yard, lamp, words):
    yard.set_shy(lamp, words[0] == "shy")
    for other in range(lamp):
        if str(other) in words[1:]:
            yard.tie(lamp, other)


def read(text):
    lines = text.split("\n")
    if len(lines) > MOST_LAMPS:
        raise NoNote("a yard has 24 lamps at most")
    yard = Yard(len(lines))
    for lamp, line in enumerate(lines):
        take_lamp(yard, lamp, line.split(" "))
    # Taking a line passes over whatever doesn't belong there; a text that had such isn't what the yard is written as.
    if shown(yard) != text:
        raise NoNote("no yard is written like this")
    return yard
