"""Stamps, vectors, acts and deeds of a house."""

from talkmarks.houses import is_hand, is_person, is_room
from talkmarks.kinds import is_rising, is_tuple_of, is_whole_from
from talkmarks.names import is_name, is_saying

ACT_PARTS = {
    "say": ("room", "under", "saying"),
    "change": ("message", "saying"),
    "back": ("message",),
    "like": ("message", "sort", "on"),
    "read": ("room", "vector"),
    "seen": ("message",),
    "hush": ("what", "on"),
    "rung": ("message",),
}


def is_stamp(house, thing):
    return is_tuple_of(2, thing) and is_whole_from(1, thing[0]) and is_hand(house, thing[1])


def is_hand_count(house, thing):
    return is_tuple_of(2, thing) and is_hand(house, thing[0]) and is_whole_from(1, thing[1])


def is_vector(house, thing):
    if not isinstance(thing, tuple) or not all([is_hand_count(house, pair) for pair in thing]):
        return False
    return is_rising([pair[0] for pair in thing])


def is_what(house, thing):
    if not is_tuple_of(2, thing):
        return False
    if thing[0] == "room":
        return is_room(house, thing[1])
    if thing[0] == "person":
        return is_person(house, thing[1])
    return thing[0] == "under" and is_stamp(house, thing[1])


def is_part(house, part, thing):
    if part == "room":
        return is_room(house, thing)
    if part == "under":
        return thing is None or is_stamp(house, thing)
    if part == "message":
        return is_stamp(house, thing)
    if part == "saying":
        return is_saying(thing)
    if part == "sort":
        return is_name(thing)
    if part == "vector":
        return is_vector(house, thing)
    if part == "what":
        return is_what(house, thing)
    return part == "on" and isinstance(thing, bool)


def is_act(house, thing):
    if not isinstance(thing, tuple) or len(thing) == 0:
        return False
    # A list can't be looked up in a dict, so only texts are.
    if not isinstance(thing[0], str) or thing[0] not in ACT_PARTS:
        return False
    parts = ACT_PARTS[thing[0]]
    if len(thing) != len(parts) + 1:
        return False
    return all([is_part(house, part, told) for part, told in zip(parts, thing[1:])])


def is_deed(house, thing):
    if not is_tuple_of(4, thing) or not is_stamp(house, thing[:2]):
        return False
    return is_whole_from(0, thing[2]) and is_act(house, thing[3])


def stamp_of(deed):
    return (deed[0], deed[1])


def person_of(deed):
    return deed[1][0]


def is_within(deed, vector):
    for hand, count in vector:
        if hand == deed[1]:
            return deed[2] < count
    return False
