"""Hands: what is done at a hand, what it hears of others, and for what it rings."""

from talkmarks.bells import bells_for
from talkmarks.deeds import is_deed, is_what, stamp_of
from talkmarks.errors import Clash, Gap, NoDeed, NoMessage, NoName, NoRoom, NoSaying, NotYours, NoWhat, Strange
from talkmarks.houses import rooms_of
from talkmarks.kinds import is_list_or_tuple
from talkmarks.logs import place_of, refuse_unlike, vector_of
from talkmarks.messages import message_at
from talkmarks.names import is_name, is_saying


def refuse_no_saying(thing):
    if not is_saying(thing):
        raise NoSaying("this is no saying")


def refuse_no_deeds(house, things):
    if not is_list_or_tuple(things) or not all([is_deed(house, thing) for thing in things]):
        raise NoDeed("a thing among these is no deed of the house")


def refuse_own(hand, deeds):
    if any([deed[1] == hand for deed in deeds]):
        raise Strange("this hand hasn't done such a deed")


def refuse_gaps(deeds):
    counts = {}
    for deed in sorted(deeds, key=place_of):
        due = counts.get(deed[1], 0)
        if deed[2] != due:
            raise Gap(deed[1], due)
        counts[deed[1]] = due + 1


def refuse_times(deeds):
    times = {}
    for deed in sorted(deeds, key=place_of):
        if deed[0] <= times.get(deed[1], 0):
            raise Clash(deed[1], deed[2])
        times[deed[1]] = deed[0]


def each_once(deeds):
    return tuple(dict([(place_of(deed), deed) for deed in deeds]).values())


def log_with(house, hand, log, things):
    refuse_no_deeds(house, things)
    told = log + tuple(things)
    refuse_unlike(told, told)
    refuse_own(hand, [deed for deed in things if deed not in log])
    whole = each_once(told)
    refuse_gaps(whole)
    refuse_times(whole)
    return tuple(sorted(whole, key=stamp_of))


class Hand:
    def __init__(self, house, name, k):
        self.house = house
        self.hand = (name, k)
        self.rooms_here = rooms_of(house, name)
        self.log = ()

    def heard(self):
        return self.log

    def refuse_no_room(self, room):
        if room not in self.rooms_here:
            raise NoRoom("this person is no member of such a room")

    def message_here(self, stamp):
        message = message_at(self.house, self.log, stamp)
        if message[1] not in self.rooms_here:
            raise NoMessage("it is of a room of which this person is no member")
        return message

    def refuse_not_own(self, stamp):
        if self.message_here(stamp)[3] != self.hand[0]:
            raise NotYours("somebody else wrote this message")

    def do(self, act):
        # A log rises by stamps, so its last deed has the greatest time.
        time = self.log[-1][0] + 1 if len(self.log) > 0 else 1
        number = len([deed for deed in self.log if deed[1] == self.hand])
        self.log = self.log + ((time, self.hand, number, act),)
        return (time, self.hand)

    def say(self, room, saying, under=None):
        self.refuse_no_room(room)
        if under is not None and self.message_here(under)[1] != room:
            raise NoMessage("it is a message of another room")
        refuse_no_saying(saying)
        return self.do(("say", room, under, saying))

    def change(self, message, saying):
        self.refuse_not_own(message)
        refuse_no_saying(saying)
        return self.do(("change", message, saying))

    def take_back(self, message):
        self.refuse_not_own(message)
        return self.do(("back", message))

    def like(self, message, sort, on=True):
        self.message_here(message)
        if not is_name(sort):
            raise NoName("a sort is a name")
        return self.do(("like", message, sort, on))

    def see(self, message):
        self.message_here(message)
        return self.do(("seen", message))

    def read(self, room):
        self.refuse_no_room(room)
        return self.do(("read", room, vector_of(self.log)))

    def hush(self, what, on=True):
        if not is_what(self.house, what):
            raise NoWhat("such a thing can't be hushed in this house")
        return self.do(("hush", what, on))

    def hear(self, deeds):
        log = log_with(self.house, self.hand, self.log, deeds)
        new = len(log) - len(self.log)
        self.log = log
        return new

    def ring(self):
        stamps = [bell[0] for bell in bells_for(self.house, self.log, self.hand[0])]
        for stamp in stamps:
            self.do(("rung", stamp))
        return stamps
