"""Halls: all hands of a house, and the rows by which they are told what to do and asked."""

from talkmarks.counts import totals_for
from talkmarks.hands import Hand
from talkmarks.houses import hands_of
from talkmarks.likes import likes_of
from talkmarks.logs import lacking_in, parcel_of, vector_of
from talkmarks.messages import messages_of
from talkmarks.rows import rows_of
from talkmarks.wording import read_row, show_stamp


def joined_or_none(between, texts):
    return between.join(texts) if len(texts) > 0 else "none"


def answer_at(hand, message, saying):
    # The row tells no room: the message is asked for it, and so refused ahead of the room.
    room = hand.message_here(message)[1]
    return hand.say(room, saying, message)


def done_at(hand, verb, parts):
    if verb == "say":
        return hand.say(parts[0], parts[1])
    if verb == "answer":
        return answer_at(hand, parts[0], parts[1])
    if verb == "change":
        return hand.change(parts[0], parts[1])
    if verb == "back":
        return hand.take_back(parts[0])
    if verb in ("like", "unlike"):
        return hand.like(parts[0], parts[1], verb == "like")
    if verb == "read":
        return hand.read(parts[0])
    if verb == "seen":
        return hand.see(parts[0])
    return hand.hush((parts[0], parts[1]), verb == "hush")


def like_word(sort, names):
    many = len(names)
    return f"{sort}*{many}"


def message_words(house, log, message):
    likes = [like_word(sort, names) for sort, names in likes_of(house, log, message[0])]
    return " ".join([show_stamp(message[0]), message[3], message[4]] + likes)


def room_shown(hand, room):
    hand.refuse_no_room(room)
    log = hand.heard()
    words = dict([(message[0], message_words(hand.house, log, message)) for message in messages_of(hand.house, log)])
    return joined_or_none("\n", ["  " * depth + words[stamp] for depth, stamp in rows_of(hand.house, log, room)])


def total_words(room, new, named):
    return f"{room} {new} {named}"


def totals_shown(hand, name):
    totals = totals_for(hand.house, hand.heard(), name)
    return joined_or_none("; ", [total_words(room, new, named) for room, new, named in totals])


class Hall:
    def __init__(self, house):
        self.house = house
        self.hands = dict([(hand, Hand(house, hand[0], hand[1])) for hand in hands_of(house)])

    def hand_at(self, name, k):
        return self.hands[(name, k)]

    def tell(self, one, other, many=None):
        log = self.hands[one].heard()
        vector = vector_of(self.hands[other].heard())
        parcel = lacking_in(log, vector) if many is None else parcel_of(log, vector, many)
        return self.hands[other].hear(parcel)

    def say_row(self, row):
        words = read_row(self.house, row)
        hand = self.hands[words[0]]
        verb = words[1]
        if verb == "tells":
            return str(self.tell(words[0], words[2], words[3] if len(words) > 3 else None))
        if verb == "rings":
            return joined_or_none(" ", [show_stamp(stamp) for stamp in hand.ring()])
        if verb == "shows":
            return room_shown(hand, words[2])
        if verb == "new":
            return totals_shown(hand, words[0][0])
        return show_stamp(done_at(hand, verb, words[2:]))
