"""The refusals: each has a class of its own, straight under TalkError."""


class TalkError(ValueError):
    pass


class NoHouse(TalkError):
    pass


class NoRoom(TalkError):
    pass


class NoMessage(TalkError):
    pass


class NotYours(TalkError):
    pass


class NoSaying(TalkError):
    pass


class NoName(TalkError):
    pass


class NoWhat(TalkError):
    pass


class NoDeed(TalkError):
    pass


class Strange(TalkError):
    pass


class NoRow(TalkError):
    pass


class Clash(TalkError):
    def __init__(self, hand, number):
        self.hand = hand
        self.number = number


class Gap(TalkError):
    def __init__(self, hand, number):
        self.hand = hand
        self.number = number
