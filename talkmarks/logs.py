"""Logs: the deeds that a hand has heard, what of them a vector lacks, and two logs joined."""

from talkmarks.deeds import is_deed, is_within, person_of, stamp_of
from talkmarks.errors import Clash
from talkmarks.kinds import is_rising


def are_numbered(deeds):
    counts = {}
    for deed in deeds:
        if deed[2] != counts.get(deed[1], 0):
            return False
        counts[deed[1]] = deed[2] + 1
    return True


def is_log(house, thing):
    if not isinstance(thing, tuple) or not all([is_deed(house, deed) for deed in thing]):
        return False
    return is_rising([stamp_of(deed) for deed in thing]) and are_numbered(thing)


def deeds_of_kind(log, kind):
    return [deed for deed in log if deed[3][0] == kind]


def deeds_by(log, kind, name):
    return [deed for deed in deeds_of_kind(log, kind) if person_of(deed) == name]


def stamps_told(log, kind, name):
    return [deed[3][1] for deed in deeds_by(log, kind, name)]


def vector_of(log):
    # A hand's numbers rise without a gap, so its last one tells how many there are.
    counts = {}
    for deed in log:
        counts[deed[1]] = deed[2] + 1
    return tuple(sorted(counts.items()))


def lacking_in(log, vector):
    return tuple([deed for deed in log if not is_within(deed, vector)])


def parcel_of(log, vector, many):
    return lacking_in(log, vector)[:many]


def place_of(deed):
    return (deed[1], deed[2])


def unlike_places(one, other):
    others = dict([(place_of(deed), deed) for deed in other])
    return [place_of(deed) for deed in one if others.get(place_of(deed), deed) != deed]


def refuse_unlike(one, other):
    unlike = unlike_places(one, other)
    if len(unlike) > 0:
        first = min(unlike)
        raise Clash(first[0], first[1])


def joined_logs(one, other):
    refuse_unlike(one, other)
    return tuple(sorted(one + lacking_in(other, vector_of(one)), key=stamp_of))
