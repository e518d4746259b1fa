"""The refusals of the program, one class for each."""


class FerryError(ValueError):
    pass


class BadThing(FerryError):
    pass


class BadRoom(FerryError):
    pass


class BadQuarrel(FerryError):
    pass


class NoStanding(FerryError):
    pass


class BadStart(FerryError):
    pass


class NoCrew(FerryError):
    pass


class BadNote(FerryError):
    pass
