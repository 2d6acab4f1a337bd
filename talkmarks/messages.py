"""Messages: which says of a log count, what they say now, and which are taken back."""

from talkmarks.deeds import is_stamp, person_of, stamp_of
from talkmarks.errors import NoMessage
from talkmarks.houses import members_of
from talkmarks.logs import deeds_of_kind


def room_of(say):
    return say[3][1]


def under_of(say):
    return say[3][2]


def can_stand(house, say, elders):
    if person_of(say) not in members_of(house, room_of(say)):
        return False
    under = under_of(say)
    return under is None or under in elders and room_of(elders[under]) == room_of(say)


def says_that_count(house, log):
    # A log rises by stamps, so whatever a say can stand beneath has been met ahead of it.
    says = {}
    for deed in deeds_of_kind(log, "say"):
        if can_stand(house, deed, says):
            says[stamp_of(deed)] = deed
    return says


def is_by_writer(deed, says):
    message = deed[3][1]
    return message in says and person_of(deed) == person_of(says[message])


def writers_own(log, kind, says):
    return [deed for deed in deeds_of_kind(log, kind) if is_by_writer(deed, says)]


def last_changes(log, says):
    # Of several pairs with one key a dict keeps the last, and a log rises by stamps.
    return dict([(deed[3][1], deed[3][2]) for deed in writers_own(log, "change", says)])


def stamps_taken_back(log, says):
    return sorted(set([deed[3][1] for deed in writers_own(log, "back", says)]))


def message_of(say, changes):
    stamp = stamp_of(say)
    saying = changes.get(stamp, say[3][3])
    return (stamp, room_of(say), under_of(say), person_of(say), saying, stamp in changes)


def says_shown(house, log):
    says = says_that_count(house, log)
    backs = stamps_taken_back(log, says)
    return dict([(stamp, says[stamp]) for stamp in says if stamp not in backs])


def messages_of(house, log):
    says = says_shown(house, log)
    changes = last_changes(log, says)
    return [message_of(say, changes) for say in says.values()]


def taken_back(house, log):
    return stamps_taken_back(log, says_that_count(house, log))


def say_at(house, log, stamp):
    says = says_shown(house, log)
    # Python takes (True, hand) for (1, hand), which is no stamp.
    if not is_stamp(house, stamp) or stamp not in says:
        raise NoMessage("there is no such message")
    return says[stamp]


def message_at(house, log, stamp):
    say = say_at(house, log, stamp)
    return message_of(say, last_changes(log, {stamp: say}))
