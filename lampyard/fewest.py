"""The way of fewest buttons, found by going through all sets of buttons."""

from lampyard.errors import TooMany
from lampyard.pressing import turned

MOST_SEARCHED = 9


def lights_behind(yard, light):
    """Every set of buttons, a rising list, with the light behind it."""
    found = [([], list(light))]
    for lamp in range(yard.many):
        lamps = yard.turns(lamp)
        found = found + [(buttons + [lamp], turned(behind, lamps)) for buttons, behind in found]
    return found


def fewest(yard, light, wished):
    if yard.many > MOST_SEARCHED:
        raise TooMany("the fewest buttons are told of yards of at most nine lamps")
    leading = [buttons for buttons, behind in lights_behind(yard, light) if behind == wished]
    return min(leading, key=lambda buttons: (len(buttons), buttons), default=None)
