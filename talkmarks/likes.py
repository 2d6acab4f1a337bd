"""Likes: who likes a message, and in what sort."""

from talkmarks.deeds import person_of
from talkmarks.houses import members_of
from talkmarks.logs import deeds_of_kind
from talkmarks.messages import message_at


def last_likes(log, stamp, members):
    likes = {}
    for deed in deeds_of_kind(log, "like"):
        if deed[3][1] == stamp and person_of(deed) in members:
            likes[(deed[3][2], person_of(deed))] = deed[3][3]
    return likes


def names_by_sort(likes):
    names = {}
    for sort, name in sorted(likes):
        if likes[(sort, name)]:
            names.setdefault(sort, []).append(name)
    return names


def likes_of(house, log, stamp):
    room = message_at(house, log, stamp)[1]
    names = names_by_sort(last_likes(log, stamp, members_of(house, room)))
    return [(sort, tuple(names[sort])) for sort in names]
