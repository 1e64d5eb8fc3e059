"""The refusals of the program, each a class of its own under WardError."""


class WardError(ValueError):
    pass


class NoMonth(WardError):
    pass


# The words of a refusal never hold its number: one of several thousand figures can't be written out.
class NoHand(WardError):
    def __init__(self, number):
        WardError.__init__(self, "a hand that is not there or out of bounds")
        self.number = number


class NoPost(WardError):
    def __init__(self, number):
        WardError.__init__(self, "a post that is not there or out of bounds")
        self.number = number


class NoTable(WardError):
    pass


class NoRule(WardError):
    def __init__(self, number):
        WardError.__init__(self, "a rule that is not there or does not fit")
        self.number = number


class NoMost(WardError):
    pass


class Faulty(WardError):
    def __init__(self, found):
        WardError.__init__(self, "a table that does not keep all rules")
        self.found = list(found)


class NoSkill(WardError):
    pass


class NoSwap(WardError):
    pass


class NoAsk(WardError):
    pass


class NotAsked(WardError):
    pass


class NoText(WardError):
    pass


class NoRow(WardError):
    pass
