"""The refusals: each has a class of its own, straight under PactError."""


class PactError(ValueError):
    pass


class NoText(PactError):
    def __init__(self, row):
        self.row = row


class NoName(PactError):
    def __init__(self, word):
        self.word = word


class CalmRoom(PactError):
    def __init__(self, word):
        self.word = word


class NoDeed(PactError):
    def __init__(self, word):
        self.word = word


class TooMany(PactError):
    pass


class Breach(PactError):
    def __init__(self, who, what, turn):
        self.who = who
        self.what = what
        self.turn = turn


class NoStand(PactError):
    pass


class NoPair(PactError):
    pass


class NoChange(PactError):
    def __init__(self, row):
        self.row = row


class NoRow(PactError):
    pass
