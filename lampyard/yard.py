"""A yard: its lamps, their ties, and which of them are shy."""

from lampyard.errors import Alone, NoLamp, NoYard, Tied, Untied

MOST_LAMPS = 24


# The refusals here don't show the number handed in: Python refuses to write out a very long one.


def check_lamp(lamp, many):
    if lamp < 0 or lamp >= many:
        raise NoLamp("the number is no lamp's")


def check_pair(one, other, many):
    check_lamp(one, many)
    check_lamp(other, many)
    if one == other:
        raise Alone("a lamp is never tied to itself")


def untied_rows(many):
    rows = []
    for lamp in range(many):
        rows.append([other == lamp for other in range(many)])
    return rows


class Yard:
    def __init__(self, many):
        if many < 1 or many > MOST_LAMPS:
            raise NoYard("a yard has 1 to 24 lamps")
        self.many = many
        # No lamp is tied to itself, so its own place in its row is free to say that it isn't shy:
        # thus a row is just what the lamp's button turns.
        self.rows = untied_rows(many)

    def tie(self, one, other):
        if self.is_tied(one, other):
            raise Tied("the two lamps are tied already")
        self.put_tie(one, other, True)

    def untie(self, one, other):
        if not self.is_tied(one, other):
            raise Untied("the two lamps aren't tied")
        self.put_tie(one, other, False)

    def put_tie(self, one, other, answer):
        self.rows[one][other] = answer
        self.rows[other][one] = answer

    def is_tied(self, one, other):
        check_pair(one, other, self.many)
        return self.rows[one][other]

    def set_shy(self, lamp, answer=True):
        check_lamp(lamp, self.many)
        self.rows[lamp][lamp] = not answer

    def is_shy(self, lamp):
        check_lamp(lamp, self.many)
        return not self.rows[lamp][lamp]

    def turns(self, lamp):
        check_lamp(lamp, self.many)
        row = self.rows[lamp]
        return [other for other in range(self.many) if row[other]]
