"""Lights and presses: the light behind a list of presses, and games."""

from lampyard.errors import NoPress
from lampyard.yard import check_lamp


def turned(light, lamps):
    return [not lit if lamp in lamps else lit for lamp, lit in enumerate(light)]


def pressed(yard, light, presses):
    behind = list(light)
    for lamp in presses:
        behind = turned(behind, yard.turns(lamp))
    return behind


class Game:
    def __init__(self, yard, light):
        # The yard may change while the game goes on, so what its buttons turn now is kept, not the yard.
        self.buttons = [yard.turns(lamp) for lamp in range(yard.many)]
        self.lit = list(light)
        self.done = []

    def press(self, lamp):
        check_lamp(lamp, len(self.buttons))
        self.lit = turned(self.lit, self.buttons[lamp])
        self.done.append(lamp)

    def back(self):
        if len(self.done) == 0:
            raise NoPress("no press is left to take back")
        lamp = self.done.pop()
        # Turned twice, a lamp is as it was: pressing once more is taking back.
        self.lit = turned(self.lit, self.buttons[lamp])
        return lamp

    def light(self):
        return list(self.lit)

    def presses(self):
        return list(self.done)
