"""Packs: what was heard, laid together, with only what is still needed to tell of it."""

from talkmarks.bells import bells_for
from talkmarks.counts import new_for, totals_for
from talkmarks.deeds import person_of, stamp_of
from talkmarks.likes import likes_of
from talkmarks.logs import vector_of
from talkmarks.messages import messages_of
from talkmarks.reads import has_read
from talkmarks.rows import rows_of


def entry_of(deed):
    act = deed[3]
    kind = act[0]
    name = person_of(deed)
    if kind == "say":
        return (kind, stamp_of(deed), None, (deed[2],) + act[1:])
    if kind == "change":
        return (kind, (act[1], name), stamp_of(deed), act[2])
    if kind == "like":
        return (kind, (act[1], name, act[2]), stamp_of(deed), act[3])
    if kind == "hush":
        return (kind, (name, act[1]), stamp_of(deed), act[2])
    if kind == "read":
        return (kind, (name, act[1]), None, act[2])
    return (kind, (act[1], name), None, None)


def deed_like(kind, key, stamp, value):
    # Where the pack has no stamp or number of a deed, none is asked for in what is told of deeds: any will do.
    if kind == "say":
        return key + (value[0], (kind,) + value[1:])
    if kind == "change":
        return stamp + (0, (kind, key[0], value))
    if kind == "like":
        return stamp + (0, (kind, key[0], key[2], value))
    if kind == "hush":
        return stamp + (0, (kind, key[1], value))
    if kind == "read":
        return (1, (key[0], 0), 0, (kind, key[1], value))
    return (1, (key[1], 0), 0, (kind, key[0]))


def greater_counts(one, other):
    counts = dict(one)
    for hand, count in other:
        counts[hand] = max(count, counts.get(hand, 0))
    return tuple(sorted(counts.items()))


def one_entry(one, other):
    if one[0] == "read":
        return one[:3] + (greater_counts(one[3], other[3]),)
    return other if one[2] is not None and one[2] < other[2] else one


def table_of(entries):
    kept = {}
    for entry in entries:
        place = entry[:2]
        kept[place] = one_entry(kept.get(place, entry), entry)
    return tuple([kept[place] for place in sorted(kept)])


class Pack:
    def __init__(self, house, log):
        self.house = house
        self.reach = vector_of(log)
        self.entries = table_of([entry_of(deed) for deed in log])

    def table(self):
        return self.entries

    def vector(self):
        return self.reach

    def together(self, other):
        pack = Pack(self.house, ())
        pack.reach = greater_counts(self.reach, other.reach)
        pack.entries = table_of(self.entries + other.entries)
        return pack

    def deeds_like(self):
        # Of these all is told that is told of the log: its says stand in order, and of each key there is the last.
        return [deed_like(kind, key, stamp, value) for kind, key, stamp, value in self.entries]

    def messages(self):
        return messages_of(self.house, self.deeds_like())

    def rows(self, room):
        return rows_of(self.house, self.deeds_like(), room)

    def likes(self, stamp):
        return likes_of(self.house, self.deeds_like(), stamp)

    def has_read(self, name, stamp):
        return has_read(self.house, self.deeds_like(), name, stamp)

    def new_to(self, name, room):
        return new_for(self.house, self.deeds_like(), name, room)

    def totals(self, name):
        return totals_for(self.house, self.deeds_like(), name)

    def bells(self, name):
        return bells_for(self.house, self.deeds_like(), name)
