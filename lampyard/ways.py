"""Ways from one light to another, reasons why there is none, and quiet sets."""

from lampyard.errors import Shy


def differing(light, wished):
    return [lamp for lamp, lit in enumerate(light) if lit != wished[lamp]]


def together(one, other):
    """The numbers that are in just one of the two lists, rising."""
    return sorted(set(one) ^ set(other))


def reduced(steps, lamps, buttons):
    """The step that comes of the lamps and buttons when the steps that can are put together with them."""
    for turned, used in steps:
        # No later step turns the first lamp of this one, so what is settled here stays settled.
        if len(turned) > 0 and turned[0] in lamps:
            lamps = together(lamps, turned)
            buttons = together(buttons, used)
    return (lamps, buttons)


def steps_of(yard):
    """A step for each button: a pair, the lamps that are turned and the buttons that together turn just these."""
    steps = []
    for lamp in range(yard.many):
        steps.append(reduced(steps, yard.turns(lamp), [lamp]))
    return steps


def quiet_sets(steps):
    # Each has its step's own button, and no earlier one has it: so none is had by putting others together.
    return [used for turned, used in steps if len(turned) == 0]


def way(yard, light, wished):
    apart = differing(light, wished)
    steps = steps_of(yard)
    for lamps in quiet_sets(steps):
        # Ties go both ways: a quiet set turns each lamp an even number of times, so each button turns an even
        # number of the lamps of a quiet set.
        if len(set(lamps) & set(apart)) % 2 == 1:
            return ("reason", lamps)
    # A reason is itself a quiet set. Where none of those told is one, no set put together of them is, so there is
    # a way, and the steps leave no lamp.
    return ("way", reduced(steps, apart, [])[1])


def quiet(yard):
    return quiet_sets(steps_of(yard))


def all_out(yard):
    if any([yard.is_shy(lamp) for lamp in range(yard.many)]):
        raise Shy("a lamp of the yard is shy")
    # With no lamp shy, a quiet set has an even number of lamps, so it is no reason here.
    return way(yard, [True] * yard.many, [False] * yard.many)[1]
