"""Counts: what is new to a member of a room, and in what of it they are named."""

from talkmarks.errors import NoRoom
from talkmarks.houses import members_of, rooms_of
from talkmarks.names import is_named
from talkmarks.reads import unread_messages
from talkmarks.rows import rows_of


def new_messages(house, log, name, room):
    if name not in members_of(house, room):
        raise NoRoom("this person is no member of the room")
    unread = dict([(message[0], message) for message in unread_messages(house, log, name)])
    return [unread[stamp] for depth, stamp in rows_of(house, log, room) if stamp in unread]


def new_for(house, log, name, room):
    return [message[0] for message in new_messages(house, log, name, room)]


def named_for(house, log, name, room):
    return [message[0] for message in new_messages(house, log, name, room) if is_named(message[4], name)]


def first_new(house, log, name, room):
    new = new_for(house, log, name, room)
    return new[0] if len(new) > 0 else None


def total_of(house, log, name, room):
    return (room, len(new_for(house, log, name, room)), len(named_for(house, log, name, room)))


def totals_for(house, log, name):
    return [total_of(house, log, name, room) for room in rooms_of(house, name)]
