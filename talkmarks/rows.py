"""Rows: what a room shows, from above, and how deep each message stands."""

from talkmarks.deeds import stamp_of
from talkmarks.errors import NoRoom
from talkmarks.houses import is_room
from talkmarks.messages import room_of, says_that_count, stamps_taken_back, under_of


def stamps_beneath(says, room):
    beneath = {}
    for say in says.values():
        if room_of(say) == room:
            beneath.setdefault(under_of(say), []).append(stamp_of(say))
    return beneath


def last_first(depth, stamps):
    return [(depth, stamp) for stamp in reversed(stamps)]


def rows_of_tree(beneath):
    # No recursion, as a talk may be as deep as it is long. The next row lies at the end of what is still to do.
    rows = []
    to_do = last_first(0, beneath.get(None, []))
    while len(to_do) > 0:
        row = to_do.pop()
        rows.append(row)
        to_do.extend(last_first(row[0] + 1, beneath.get(row[1], [])))
    return rows


def rows_of(house, log, room):
    if not is_room(house, room):
        raise NoRoom("there is no such room in the house")
    says = says_that_count(house, log)
    backs = stamps_taken_back(log, says)
    return [row for row in rows_of_tree(stamps_beneath(says, room)) if row[1] not in backs]
