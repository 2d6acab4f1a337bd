"""Reads: who has read a message, and which messages a person hasn't."""

from talkmarks.deeds import is_within, person_of, stamp_of
from talkmarks.houses import members_of
from talkmarks.logs import deeds_by, stamps_told
from talkmarks.messages import last_changes, message_of, room_of, say_at, says_shown


def vectors_by_room(log, name):
    vectors = {}
    for deed in deeds_by(log, "read", name):
        vectors.setdefault(deed[3][1], []).append(deed[3][2])
    return vectors


def is_read(say, name, vectors, seen):
    if person_of(say) == name or stamp_of(say) in seen:
        return True
    return any([is_within(say, vector) for vector in vectors.get(room_of(say), [])])


def has_read(house, log, name, stamp):
    say = say_at(house, log, stamp)
    return is_read(say, name, vectors_by_room(log, name), stamps_told(log, "seen", name))


def readers_of(house, log, stamp):
    room = room_of(say_at(house, log, stamp))
    return [name for name in members_of(house, room) if has_read(house, log, name, stamp)]


def unread_messages(house, log, name):
    # The person's marks are gathered once, not for each message anew.
    vectors = vectors_by_room(log, name)
    seen = stamps_told(log, "seen", name)
    says = says_shown(house, log)
    changes = last_changes(log, says)
    return [message_of(say, changes) for say in says.values() if not is_read(say, name, vectors, seen)]
