"""The refusals, one class for each."""


class MoorError(ValueError):
    pass


class NoMoor(MoorError):
    pass


class Stuck(MoorError):
    def __init__(self, at):
        self.at = at


class NoText(MoorError):
    pass


class NoName(MoorError):
    pass


class NoRow(MoorError):
    pass
