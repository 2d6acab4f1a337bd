"""A hall told once more in the plainest way, and rows made up by seeded chance."""

import re

from samples import HOUSE
from talkmarks.counts import totals_for
from talkmarks.errors import NoMessage, NoRoom, NoRow
from talkmarks.hands import Hand
from talkmarks.houses import hands_of
from talkmarks.likes import likes_of
from talkmarks.logs import parcel_of, vector_of
from talkmarks.messages import message_at
from talkmarks.rows import rows_of

HAND = "(ann[01]|bob0|cy[012])"
NUMBER = "[1-9][0-9]{0,11}"
MESSAGE = "(" + NUMBER + ")" + HAND
NAME = "([a-z]{1,8})"
SAYING = "([ -~]{1,60})"


def hand_in(text):
    return (text[:-1], int(text[-1]))


class PlainHall:
    """Goes by the same rows, told from one another by patterns, at hands of its own."""

    def __init__(self):
        self.hands = {hand: Hand(HOUSE, *hand) for hand in hands_of(HOUSE)}

    def match(self, pattern, row):
        found = re.fullmatch(HAND + " " + pattern, row, re.DOTALL)
        if found is None:
            return None
        self.place = hand_in(found[1])
        self.hand = self.hands[self.place]
        return found.groups()[1:]

    def say_row(self, row):
        for pattern, answer in [
                ("say " + NAME + " " + SAYING, lambda room, saying: self.hand.say(room, saying)),
                ("answer " + MESSAGE + " " + SAYING, self.answer),
                ("change " + MESSAGE + " " + SAYING, lambda t, h, saying: self.hand.change(stamp_in(t, h), saying)),
                ("back " + MESSAGE, lambda t, h: self.hand.take_back(stamp_in(t, h))),
                ("like " + MESSAGE + " " + NAME, lambda t, h, sort: self.hand.like(stamp_in(t, h), sort)),
                ("unlike " + MESSAGE + " " + NAME, lambda t, h, sort: self.hand.like(stamp_in(t, h), sort, False)),
                ("read " + NAME, lambda room: self.hand.read(room)),
                ("seen " + MESSAGE, lambda t, h: self.hand.see(stamp_in(t, h))),
                ("(un|)hush (room|person) " + NAME, lambda un, kind, name: self.hand.hush((kind, name), un == "")),
                ("(un|)hush under " + MESSAGE, lambda un, t, h: self.hand.hush(("under", stamp_in(t, h)), un == ""))]:
            found = self.match(pattern, row)
            if found is not None:
                stamp = answer(*found)
                return f"{stamp[0]}{stamp[1][0]}{stamp[1][1]}"
        return self.ask_row(row)

    def answer(self, time, hand, saying):
        stamp = stamp_in(time, hand)
        rooms = [room for room, members in HOUSE[1] if self.place[0] in members]
        if message_at(HOUSE, self.hand.heard(), stamp)[1] not in rooms:
            raise NoMessage("of another room")
        return self.hand.say(message_at(HOUSE, self.hand.heard(), stamp)[1], saying, stamp)

    def ask_row(self, row):
        for pattern, answer in [("tells " + HAND + "(?: (0|" + NUMBER + "))?", self.tells), ("rings", self.rings),
                                ("shows " + NAME, self.shows), ("new", self.new)]:
            found = self.match(pattern, row)
            if found is not None:
                return answer(*found)
        raise NoRow("no such row")

    def tells(self, other, many):
        other = self.hands[hand_in(other)]
        return str(other.hear(parcel_of(self.hand.heard(), vector_of(other.heard()), int(many or 10 ** 6))))

    def rings(self):
        return " ".join(f"{time}{name}{k}" for time, (name, k) in self.hand.ring()) or "none"

    def shows(self, room):
        if self.place[0] not in dict(HOUSE[1]).get(room, ()):
            raise NoRoom("no room of theirs")
        log = self.hand.heard()
        rows = []
        for depth, stamp in rows_of(HOUSE, log, room):
            row = f"{'  ' * depth}{stamp[0]}{stamp[1][0]}{stamp[1][1]} {stamp[1][0]} {message_at(HOUSE, log, stamp)[4]}"
            rows.append(row + "".join(f" {sort}*{len(names)}" for sort, names in likes_of(HOUSE, log, stamp)))
        return "\n".join(rows) or "none"

    def new(self):
        totals = totals_for(HOUSE, self.hand.heard(), self.place[0])
        return "; ".join(f"{room} {new} {named}" for room, new, named in totals)


def stamp_in(time, hand):
    return (int(time), hand_in(hand))


def chance_word(chance, place, hand, said):
    """Mostly such as are there; now and then one that isn't, or is no such thing."""
    odd = chance.randint(0, 25) == 0
    sayings = ["hi", "@ann  so", " @bob", "@cy ", "x" * 60] + (["x" * 61, "", "a\tb"] if odd else [])
    own = [message for message in said if message.lstrip("0123456789")[:-1] == hand[:-1]]
    words = {
        "HAND": ["ann0", "ann1", "bob0", "cy0", "cy1", "cy2"] + (["bob1", "dan0"] if odd else []),
        "OWN": (own or said) + (["01ann0", "9ann"] if odd else []),
        "MESSAGE": said + (["0ann0", "x", "7bob0"] if odd else []),
        "ROOM": ["hall"] * 6 + ["yard", "yard", "shed"] + (["Hall", ""] if odd else []),
        "NAME": ["ann", "bob", "cy", "dan"] + (["Dan", "hall"] if odd else []),
        "SORT": ["good", "bad"] + (["no1"] if odd else []),
        "MANY": ["0", "1", "2", "9", "40"] + (["03", "1234567890123", "-1"] if odd else []),
        "SAYING": sayings,
    }
    return chance.choice(words.get(place, [place] if not odd else [place, place + " ", place.upper(), ""]))


FORMS = ["say ROOM SAYING", "say ROOM SAYING", "answer MESSAGE SAYING", "answer MESSAGE SAYING", "change OWN SAYING",
         "change MESSAGE SAYING", "back OWN", "like MESSAGE SORT", "like MESSAGE SORT", "unlike MESSAGE SORT",
         "read ROOM", "seen MESSAGE", "hush room ROOM", "hush person NAME", "unhush person NAME", "unhush room ROOM",
         "hush under MESSAGE", "unhush under MESSAGE", "rings", "rings", "shows ROOM", "shows ROOM", "new", "new"]
FORMS = FORMS + ["tells HAND", "tells HAND", "tells HAND MANY"] * 6


def chance_row(chance, said):
    """A row of one of the forms, given the messages that were said so far, as words."""
    hand = chance_word(chance, "HAND", "", said)
    words = [chance_word(chance, place, hand, said) for place in chance.choice(FORMS).split(" ")]
    return " ".join([hand] + words)
