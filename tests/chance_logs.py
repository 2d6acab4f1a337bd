"""Logs made up by seeded chance, and what the document says of them, told once more in the plainest way."""

import random
import re

from samples import HOUSE, log_of
from talkmarks.houses import hands_of

MEMBERS = dict(HOUSE[1])
SAYINGS = ["hi", "ho", "@ann", "so @bob", "x", "@cy @ann", "@anna", "@cyx"]
KINDS = ["change", "change", "back", "like", "like", "like", "like", "read", "seen", "hush", "hush", "rung"]


def chance_say(chance, stamp, says):
    elders = [None] + [elder for elder in says if elder < stamp]
    under = chance.choice(elders if chance.randint(0, 5) else says)
    return ("say", chance.choice(["hall"] * 4 + ["yard"]), under, chance.choice(SAYINGS))


def chance_vector(chance):
    hands = sorted(chance.sample(hands_of(HOUSE), chance.randint(0, 3)))
    return tuple([(hand, chance.randint(1, 4)) for hand in hands])


def chance_what(chance, message):
    person = chance.choice(["ann", "bob", "cy"])
    return chance.choice([("under", message)] * 4 + [("room", "hall"), ("room", "yard"), ("person", person)])


def chance_act(chance, stamp, says):
    own = [message for message in says if message[1][0] == stamp[1][0]]
    message = chance.choice(says)
    kind = chance.choice(KINDS)
    if kind in ["change", "back"] and own and chance.randint(0, 5):
        message = chance.choice(own)
    more = {"change": (chance.choice(SAYINGS),),
            "like": (chance.choice(["good", "bad"]), chance.choice([True, True, False]))}
    if kind == "read":
        return ("read", chance.choice(["hall", "hall", "yard"]), chance_vector(chance))
    if kind == "hush":
        return ("hush", chance_what(chance, message), chance.choice([True, True, False]))
    return (kind, message) + more.get(kind, ())


def chance_log(seed, many):
    """A log of up to so many deeds, in which most acts tell of says that stand in it, be they ahead or behind."""
    chance = random.Random(seed)
    stamps = sorted({(chance.randint(1, many), chance.choice(hands_of(HOUSE))) for k in range(many)})
    says = sorted(chance.sample(stamps, len(stamps) // 2 + 1))
    rows = []
    for stamp in stamps:
        act = chance_say(chance, stamp, says) if stamp in says else chance_act(chance, stamp, says)
        rows.append(stamp + (act,))
    return log_of(*rows)


def chance_parts(seed, log, many):
    """So many logs which, joined, are this one: each has of every hand some first deeds."""
    chance = random.Random(seed)
    parts = []
    for k in range(many):
        counts = {hand: chance.randint(0, 6) for hand in hands_of(HOUSE)}
        parts.append(tuple([deed for deed in log if deed[2] < counts[deed[1]]]))
    place = chance.randint(0, many)
    return parts[:place] + [log] + parts[place:]


class Plain:
    """Asks each promise of points 10 to 18 straight, stamp by stamp."""

    def __init__(self, log):
        self.log = log
        self.says = {deed[:2]: deed for deed in log if deed[3][0] == "say"}

    def counts(self, stamp):
        if stamp not in self.says:
            return False
        room, under = self.says[stamp][3][1:3]
        if stamp[1][0] not in MEMBERS[room]:
            return False
        if under is None:
            return True
        return under < stamp and self.counts(under) and self.says[under][3][1] == room

    def stamps(self):
        return [stamp for stamp in sorted(self.says) if self.counts(stamp)]

    def by_writer(self, kind, stamp):
        return [deed for deed in self.log if deed[3][:2] == (kind, stamp) and deed[1][0] == stamp[1][0]]

    def is_back(self, stamp):
        return len(self.by_writer("back", stamp)) > 0

    def backs(self):
        return [stamp for stamp in self.stamps() if self.is_back(stamp)]

    def messages(self):
        told = []
        for stamp in self.stamps():
            changes = self.by_writer("change", stamp)
            word, room, under, saying = self.says[stamp][3]
            if changes:
                saying = max(changes, key=lambda deed: deed[:2])[3][2]
            if not self.is_back(stamp):
                told.append((stamp, room, under, stamp[1][0], saying, len(changes) > 0))
        return told

    def rows(self, room, under=None, depth=0):
        told = []
        for stamp in self.stamps():
            if self.says[stamp][3][1:3] == (room, under):
                told += [] if self.is_back(stamp) else [(depth, stamp)]
                told += self.rows(room, stamp, depth + 1)
        return told

    def likes_so(self, stamp, name, sort):
        likes = [deed for deed in self.log if deed[3][:3] == ("like", stamp, sort) and deed[1][0] == name]
        return len(likes) > 0 and max(likes, key=lambda deed: deed[:2])[3][3]

    def likes(self, stamp):
        told = []
        for sort in sorted({deed[3][2] for deed in self.log if deed[3][0] == "like"}):
            names = [name for name in MEMBERS[self.says[stamp][3][1]] if self.likes_so(stamp, name, sort)]
            if names:
                told.append((sort, tuple(names)))
        return told

    def acts_of(self, name, kind):
        return [deed[3] for deed in self.log if deed[3][0] == kind and deed[1][0] == name]

    def hushes(self, name):
        acts = self.acts_of(name, "hush")
        return sorted({act[1] for act in acts if [other[2] for other in acts if other[1] == act[1]][-1]})

    def has_read(self, name, stamp):
        word, hand, number, act = self.says[stamp]
        if hand[0] == name or ("seen", stamp) in self.acts_of(name, "seen"):
            return True
        vectors = [read[2] for read in self.acts_of(name, "read") if read[1] == act[1]]
        return any(dict(vector).get(hand, 0) >= number + 1 for vector in vectors)

    def readers(self, stamp):
        return sorted(name for name in MEMBERS[self.says[stamp][3][1]] if self.has_read(name, stamp))

    def new(self, name, room):
        return [stamp for depth, stamp in self.rows(room) if not self.has_read(name, stamp)]

    def is_named(self, name, stamp):
        saying = {message[0]: message[4] for message in self.messages()}[stamp]
        return re.search("@" + name + "(?![a-z])", saying) is not None

    def named(self, name, room):
        return [stamp for stamp in self.new(name, room) if self.is_named(name, stamp)]

    def totals(self, name):
        rooms = [room for room in sorted(MEMBERS) if name in MEMBERS[room]]
        return [(room, len(self.new(name, room)), len(self.named(name, room))) for room in rooms]

    def above(self, stamp):
        under = self.says[stamp][3][2]
        return [] if under is None else [under] + self.above(under)

    def reasons(self, name, stamp):
        """All of named, answered and heard that hold, in this order."""
        above = self.above(stamp)
        quiets = [("room", self.says[stamp][3][1])] + [("under", message) for message in [stamp] + above]
        holds = {"named": self.is_named(name, stamp),
                 "answered": len(above) > 0 and above[0][1][0] == name,
                 "heard": not any(what in self.hushes(name) for what in quiets)}
        return [why for why in holds if holds[why]]

    def is_still(self, name, stamp):
        """Whether no bell rings for it, whatever is a reason for one."""
        if name not in MEMBERS[self.says[stamp][3][1]] or ("person", stamp[1][0]) in self.hushes(name):
            return True
        return self.has_read(name, stamp) or ("rung", stamp) in self.acts_of(name, "rung")

    def bells(self, name):
        stamps = [message[0] for message in self.messages() if not self.is_still(name, message[0])]
        return [(stamp, self.reasons(name, stamp)[0]) for stamp in stamps if self.reasons(name, stamp)]
