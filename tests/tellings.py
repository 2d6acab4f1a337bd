"""All that is told, gathered so that two who tell can be compared, refusals and all."""

from samples import HOUSE
from talkmarks.bells import bells_for
from talkmarks.counts import new_for, totals_for
from talkmarks.errors import TalkError
from talkmarks.likes import likes_of
from talkmarks.messages import messages_of
from talkmarks.reads import has_read
from talkmarks.rows import rows_of

EVERYBODY = ["ann", "bob", "cy"]
ROOMS = ["hall", "yard", "shed"]


def told(ask, *things):
    """What is told, or which refusal: its class, and the hand and number where it has them."""
    try:
        return ask(*things)
    except TalkError as refusal:
        return (type(refusal), getattr(refusal, "hand", None), getattr(refusal, "number", None))


class LogTeller:
    """Has the methods of a pack, but asks the log."""

    def __init__(self, house, log):
        self.messages = lambda: messages_of(house, log)
        self.rows = lambda room: rows_of(house, log, room)
        self.likes = lambda stamp: likes_of(house, log, stamp)
        self.has_read = lambda name, stamp: has_read(house, log, name, stamp)
        self.new_to = lambda name, room: new_for(house, log, name, room)
        self.totals = lambda name: totals_for(house, log, name)
        self.bells = lambda name: bells_for(house, log, name)


def all_told(teller, stamps):
    """All that a pack tells, and of these stamps, be they messages or not, what it tells of each."""
    found = {"messages": told(teller.messages)}
    for room in ROOMS:
        found["rows", room] = told(teller.rows, room)
    for stamp in stamps:
        found["likes", stamp] = told(teller.likes, stamp)
    for name in EVERYBODY:
        found["totals", name] = told(teller.totals, name)
        found["bells", name] = told(teller.bells, name)
        for room in ROOMS:
            found["new", name, room] = told(teller.new_to, name, room)
        for stamp in stamps:
            found["read", name, stamp] = told(teller.has_read, name, stamp)
    return found


def told_of_log(log, stamps):
    return all_told(LogTeller(HOUSE, log), stamps)
