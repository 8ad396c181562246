"""The refusals: each a class of its own, straight under RoomError."""


class RoomError(ValueError):
    pass


class Barred(RoomError):
    def __init__(self, move, word):
        self.move = move
        self.word = word


class NoMove(RoomError):
    pass


class NoTree(RoomError):
    pass


class TooMany(RoomError):
    pass


class BadRow(RoomError):
    def __init__(self, row):
        self.row = row
