"""Bells: for which messages a bell is due for a person, and why."""

from talkmarks.deeds import person_of
from talkmarks.houses import rooms_of
from talkmarks.hushes import hushes_of
from talkmarks.logs import stamps_told
from talkmarks.messages import says_that_count, under_of
from talkmarks.names import is_named
from talkmarks.reads import unread_messages


def stamps_hushed(says, hushes):
    # Says rise by stamps, so all that stands above one has been gone through ahead of it.
    hushed = []
    for stamp in says:
        if ("under", stamp) in hushes or under_of(says[stamp]) in hushed:
            hushed.append(stamp)
    return hushed


def stamps_by(says, name):
    return [stamp for stamp in says if person_of(says[stamp]) == name]


def can_ring(message, rooms, rung, hushes):
    return message[1] in rooms and message[0] not in rung and ("person", message[3]) not in hushes


def why_of(message, name, own, quiet):
    if is_named(message[4], name):
        return "named"
    if message[2] in own:
        return "answered"
    return None if quiet else "heard"


def bells_for(house, log, name):
    rooms = rooms_of(house, name)
    rung = stamps_told(log, "rung", name)
    hushes = hushes_of(log, name)
    # Those taken back are among these says: an answer to one is still an answer, and a hush under one still holds.
    says = says_that_count(house, log)
    own = stamps_by(says, name)
    hushed = stamps_hushed(says, hushes)
    bells = []
    for message in unread_messages(house, log, name):
        quiet = ("room", message[1]) in hushes or message[0] in hushed
        why = why_of(message, name, own, quiet)
        if why is not None and can_ring(message, rooms, rung, hushes):
            bells.append((message[0], why))
    return bells
