"""The refusals: one class for each, all straight under LampError."""


class LampError(ValueError):
    pass


class NoYard(LampError):
    pass


class NoLamp(LampError):
    pass


class Alone(LampError):
    pass


class Tied(LampError):
    pass


class Untied(LampError):
    pass


class NoPress(LampError):
    pass


class TooMany(LampError):
    pass


class Shy(LampError):
    pass


class NoNote(LampError):
    pass
