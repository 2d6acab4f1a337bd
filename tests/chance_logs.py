"""Logs made up by seeded chance, and what the document says of them, told once more in the plainest way."""

import random

from samples import HOUSE, log_of
from talkmarks.houses import hands_of

MEMBERS = dict(HOUSE[1])
SAYINGS = ["hi", "ho", "@ann", "so @bob", "x"]


def chance_say(chance, stamp, says):
    elders = [None] + [elder for elder in says if elder < stamp]
    under = chance.choice(elders if chance.randint(0, 5) else says)
    return ("say", chance.choice(["hall"] * 4 + ["yard"]), under, chance.choice(SAYINGS))


def chance_act(chance, stamp, says):
    own = [message for message in says if message[1][0] == stamp[1][0]]
    message = chance.choice(says)
    kind = chance.choice(["change", "change", "back", "like", "like", "like", "like", "read", "seen", "hush", "rung"])
    if kind in ["change", "back"] and own and chance.randint(0, 5):
        message = chance.choice(own)
    more = {"change": (chance.choice(SAYINGS),),
            "like": (chance.choice(["good", "bad"]), chance.choice([True, True, False]))}
    if kind == "read":
        return ("read", "hall", ((message[1], 1),))
    if kind == "hush":
        return ("hush", ("under", message), chance.choice([True, False]))
    return (kind, message) + more.get(kind, ())


def chance_log(seed, many):
    """A log of up to so many deeds, in which most acts tell of says that stand in it, be they ahead or behind."""
    chance = random.Random(seed)
    stamps = sorted({(chance.randint(1, many), chance.choice(hands_of(HOUSE))) for k in range(many)})
    says = sorted(chance.sample(stamps, len(stamps) // 2 + 1))
    rows = []
    for stamp in stamps:
        act = chance_say(chance, stamp, says) if stamp in says else chance_act(chance, stamp, says)
        rows.append(stamp + (act,))
    return log_of(*rows)


def chance_parts(seed, log, many):
    """So many logs which, joined, are this one: each has of every hand some first deeds."""
    chance = random.Random(seed)
    parts = []
    for k in range(many):
        counts = {hand: chance.randint(0, 6) for hand in hands_of(HOUSE)}
        parts.append(tuple([deed for deed in log if deed[2] < counts[deed[1]]]))
    place = chance.randint(0, many)
    return parts[:place] + [log] + parts[place:]


class Plain:
    """Asks each promise of points 10 to 13 straight, stamp by stamp."""

    def __init__(self, log):
        self.log = log
        self.says = {deed[:2]: deed for deed in log if deed[3][0] == "say"}

    def counts(self, stamp):
        if stamp not in self.says:
            return False
        room, under = self.says[stamp][3][1:3]
        if stamp[1][0] not in MEMBERS[room]:
            return False
        if under is None:
            return True
        return under < stamp and self.counts(under) and self.says[under][3][1] == room

    def stamps(self):
        return [stamp for stamp in sorted(self.says) if self.counts(stamp)]

    def by_writer(self, kind, stamp):
        return [deed for deed in self.log if deed[3][:2] == (kind, stamp) and deed[1][0] == stamp[1][0]]

    def is_back(self, stamp):
        return len(self.by_writer("back", stamp)) > 0

    def backs(self):
        return [stamp for stamp in self.stamps() if self.is_back(stamp)]

    def messages(self):
        told = []
        for stamp in self.stamps():
            changes = self.by_writer("change", stamp)
            word, room, under, saying = self.says[stamp][3]
            if changes:
                saying = max(changes, key=lambda deed: deed[:2])[3][2]
            if not self.is_back(stamp):
                told.append((stamp, room, under, stamp[1][0], saying, len(changes) > 0))
        return told

    def rows(self, room, under=None, depth=0):
        told = []
        for stamp in self.stamps():
            if self.says[stamp][3][1:3] == (room, under):
                told += [] if self.is_back(stamp) else [(depth, stamp)]
                told += self.rows(room, stamp, depth + 1)
        return told

    def likes_so(self, stamp, name, sort):
        likes = [deed for deed in self.log if deed[3][:3] == ("like", stamp, sort) and deed[1][0] == name]
        return len(likes) > 0 and max(likes, key=lambda deed: deed[:2])[3][3]

    def likes(self, stamp):
        told = []
        for sort in sorted({deed[3][2] for deed in self.log if deed[3][0] == "like"}):
            names = [name for name in MEMBERS[self.says[stamp][3][1]] if self.likes_so(stamp, name, sort)]
            if names:
                told.append((sort, tuple(names)))
        return told
