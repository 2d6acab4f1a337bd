import unittest

from samples import ANN, ANN1, BOB, CY, CY1, HOUSE, NOTHINGS, hush, log_of, say, under
from talkmarks.errors import NoMessage, NoName, NoRoom, NoSaying, NotYours, NoWhat, TalkError
from talkmarks.hands import Hand
from talkmarks.houses import hands_of
from talkmarks.logs import is_log, vector_of
from talkmarks.messages import messages_of
from talkmarks.reads import has_read

HALL = ("room", "hall")
NO_SAYINGS = ["", "x" * 61, "a\n", "\t", "a\tb"]
NO_NAMES = ["", "x" * 9, "Good", "good1", "good ", " good", "a b"]
# Python takes some of these for the stamp (1, ANN), which is a message below.
NEAR_STAMPS = [(True, ANN), (1, ("ann", False)), [1, ANN], (1, ["ann", 0]), (1, ANN, 0), (1,), "1ann0", (ANN, 1),
               (0, ANN), (-1, ANN), (1, ("ann", 2)), (1, ("dan", 0)), (1, "ann0")]
NO_STAMPS = [thing for thing in NOTHINGS if thing is not None] + NEAR_STAMPS
NO_MESSAGES = NO_STAMPS + [None, (2, ANN), (1, ANN1), (1, BOB), (10 ** 12, ANN), (10 ** 13, CY)]

# Heard by bob: two messages of the hall, one of them taken back, one of the yard, one that doesn't count.
TALK = log_of((1, ANN, say("a")), (2, CY, say("b")), (3, CY1, ("back", (2, CY))), (4, ANN1, say("c", None, "yard")),
              (5, CY, say("d", (99, ANN))))


def hand_with(hand, log):
    made = Hand(HOUSE, hand[0], hand[1])
    made.hear(log)
    return made


class HandCase(unittest.TestCase):
    def done(self, hand, stamp, act, number):
        """The last deed at this hand is this one."""
        self.assertEqual(hand.heard()[-1], stamp + (number, act))
        self.assertTrue(is_log(HOUSE, hand.heard()))

    def refused(self, error, hand, ask, *things, **named):
        before = hand.heard()
        with self.assertRaises(TalkError) as caught:
            ask(*things, **named)
        self.assertIs(type(caught.exception), error, repr(things)[:200])
        self.assertEqual(hand.heard(), before)


class DoTest(HandCase):
    def test_at_first_without_deeds(self):
        for name, k in hands_of(HOUSE):
            self.assertEqual(Hand(HOUSE, name, k).heard(), ())

    def test_say(self):
        hand = Hand(HOUSE, "ann", 1)
        self.assertEqual(hand.say("hall", "hi"), (1, ANN1))
        self.done(hand, (1, ANN1), ("say", "hall", None, "hi"), 0)
        self.assertEqual(hand.say("yard", " ~ "), (2, ANN1))
        self.done(hand, (2, ANN1), ("say", "yard", None, " ~ "), 1)
        self.assertEqual(hand.say("hall", "x" * 60, (1, ANN1)), (3, ANN1))
        self.done(hand, (3, ANN1), ("say", "hall", (1, ANN1), "x" * 60), 2)
        self.assertEqual(hand.say("hall", "b", under=(3, ANN1)), (4, ANN1))
        self.assertEqual(hand.say("hall", "c", None), (5, ANN1))
        self.assertEqual(len(messages_of(HOUSE, hand.heard())), 5)

    def test_change_and_take_back(self):
        hand = Hand(HOUSE, "ann", 0)
        hand.say("hall", "hi")
        self.assertEqual(hand.change((1, ANN), "ho"), (2, ANN))
        self.done(hand, (2, ANN), ("change", (1, ANN), "ho"), 1)
        self.assertEqual(hand.take_back((1, ANN)), (3, ANN))
        self.done(hand, (3, ANN), ("back", (1, ANN)), 2)

    def test_what_was_said_at_another_hand_of_the_person(self):
        hand = hand_with(ANN1, TALK[:1])
        self.assertEqual(hand.change((1, ANN), "ho"), (2, ANN1))
        self.assertEqual(hand.take_back((1, ANN)), (3, ANN1))

    def test_like_and_no_longer(self):
        hand = hand_with(BOB, TALK)
        self.assertEqual(hand.like((1, ANN), "good"), (6, BOB))
        self.done(hand, (6, BOB), ("like", (1, ANN), "good", True), 0)
        self.assertEqual(hand.like((1, ANN), "good", False), (7, BOB))
        self.done(hand, (7, BOB), ("like", (1, ANN), "good", False), 1)
        hand.like((1, ANN), "x", on=True)
        self.done(hand, (8, BOB), ("like", (1, ANN), "x", True), 2)
        hand.like((1, ANN), "abcdefgh", on=False)
        self.done(hand, (9, BOB), ("like", (1, ANN), "abcdefgh", False), 3)

    def test_like_and_see_one_s_own(self):
        hand = hand_with(ANN, ())
        hand.say("hall", "hi")
        self.assertEqual(hand.like((1, ANN), "good"), (2, ANN))
        self.assertEqual(hand.see((1, ANN)), (3, ANN))

    def test_see(self):
        hand = hand_with(BOB, TALK)
        self.assertEqual(hand.see((1, ANN)), (6, BOB))
        self.done(hand, (6, BOB), ("seen", (1, ANN)), 0)
        self.assertIs(has_read(HOUSE, hand.heard(), "bob", (1, ANN)), True)

    def test_read_by_the_vector_ahead_of_the_deed(self):
        hand = Hand(HOUSE, "cy", 2)
        self.assertEqual(hand.read("hall"), (1, ("cy", 2)))
        self.done(hand, (1, ("cy", 2)), ("read", "hall", ()), 0)
        hand.read("yard")
        self.done(hand, (2, ("cy", 2)), ("read", "yard", ((("cy", 2), 1),)), 1)
        hand.hear(TALK)
        vector = vector_of(hand.heard())
        self.assertEqual(vector, ((ANN, 1), (ANN1, 1), (CY, 2), (CY1, 1), (("cy", 2), 2)))
        hand.read("hall")
        self.done(hand, (6, ("cy", 2)), ("read", "hall", vector), 2)

    def test_read_does_not_read_what_is_heard_later(self):
        hand = hand_with(BOB, TALK[:1])
        hand.read("hall")
        hand.hear(log_of((1, CY, say("late"))))
        self.assertIs(has_read(HOUSE, hand.heard(), "bob", (1, ANN)), True)
        self.assertIs(has_read(HOUSE, hand.heard(), "bob", (1, CY)), False)

    def test_hush_and_no_longer(self):
        hand = hand_with(BOB, TALK)
        # Among them a room of which bob is no member, himself, and messages that weren't heard or were taken back.
        whats = [HALL, ("room", "yard"), ("person", "ann"), ("person", "bob"), under(1, ANN), under(2, CY),
                 under(4, ANN1), under(77, CY1), under(10 ** 12, BOB)]
        for k, what in enumerate(whats):
            self.assertEqual(hand.hush(what), (6 + 2 * k, BOB))
            self.done(hand, (6 + 2 * k, BOB), hush(what), 2 * k)
            self.assertEqual(hand.hush(what, k % 2 == 1), (7 + 2 * k, BOB))
            self.done(hand, (7 + 2 * k, BOB), hush(what, k % 2 == 1), 2 * k + 1)
        hand.hush(HALL, on=False)
        self.done(hand, (24, BOB), hush(HALL, False), 18)

    def test_one_more_than_the_greatest_time_in_the_log(self):
        hand = Hand(HOUSE, "ann", 0)
        hand.say("hall", "a")
        hand.hear(log_of((70, CY, say("b")), (3, BOB, say("c")), (9, ANN1, say("d"))))
        self.assertEqual(hand.say("hall", "e"), (71, ANN))
        self.done(hand, (71, ANN), say("e"), 1)
        hand.hear(((70, CY, 0, say("b")), (71, CY, 1, say("f"))))
        self.assertEqual(hand.say("hall", "g"), (72, ANN))

    def test_numbers_are_of_the_hand_not_of_the_person(self):
        hand = hand_with(ANN1, log_of((1, ANN, say("a")), (2, ANN, say("b")), (3, BOB, say("c"))))
        hand.say("hall", "d")
        self.done(hand, (4, ANN1), say("d"), 0)
        hand.hear(((1, ANN, 0, say("a")), (2, ANN, 1, say("b")), (9, ANN, 2, say("e"))))
        hand.say("hall", "f")
        self.done(hand, (10, ANN1), say("f"), 1)

    def test_two_hands_of_one_place_are_two(self):
        one, other = Hand(HOUSE, "ann", 0), Hand(HOUSE, "ann", 0)
        one.say("hall", "a")
        self.assertEqual(other.heard(), ())
        self.assertEqual(len(one.heard()), 1)

    def test_what_was_heard_stays_as_it_was_told(self):
        hand = Hand(HOUSE, "ann", 0)
        before = hand.heard()
        hand.say("hall", "a")
        self.assertEqual(before, ())
        self.assertIsInstance(hand.heard(), tuple)


class RefuseTest(HandCase):
    def setUp(self):
        self.hand = hand_with(BOB, TALK)

    def test_no_room(self):
        for room in NOTHINGS + ["shed", "yard", "Hall", "hall ", ["hall"], ("hall",), "hall\n", HALL]:
            self.refused(NoRoom, self.hand, self.hand.say, room, "hi")
            self.refused(NoRoom, self.hand, self.hand.read, room)

    def test_no_room_ahead_of_all(self):
        for room in ["shed", "yard", None, ["hall"]]:
            self.refused(NoRoom, self.hand, self.hand.say, room, "", (9, BOB))
            self.refused(NoRoom, self.hand, self.hand.say, room, None, [])
            self.refused(NoRoom, self.hand, self.hand.say, room, "x" * 61)
            self.refused(NoRoom, self.hand, self.hand.say, room, "hi", (1, ANN))
            self.refused(NoRoom, self.hand, self.hand.say, room, "hi", (4, ANN1))

    def test_no_message(self):
        # Besides what is no message at all: one taken back, one of a room that isn't bob's, one that doesn't count.
        for message in NO_MESSAGES + [(2, CY), (4, ANN1), (5, CY), (3, CY1)]:
            self.refused(NoMessage, self.hand, self.hand.change, message, "hi")
            self.refused(NoMessage, self.hand, self.hand.take_back, message)
            self.refused(NoMessage, self.hand, self.hand.like, message, "good")
            self.refused(NoMessage, self.hand, self.hand.like, message, "good", False)
            self.refused(NoMessage, self.hand, self.hand.see, message)
            if message is not None:
                self.refused(NoMessage, self.hand, self.hand.say, "hall", "hi", message)
                self.refused(NoMessage, self.hand, self.hand.say, "hall", "hi", under=message)

    def test_no_message_ahead_of_what_is_told_later(self):
        for message in [(9, BOB), (4, ANN1), (2, CY), None, []]:
            self.refused(NoMessage, self.hand, self.hand.change, message, "")
            self.refused(NoMessage, self.hand, self.hand.like, message, "")
            self.refused(NoMessage, self.hand, self.hand.like, message, None)
            if message is not None:
                self.refused(NoMessage, self.hand, self.hand.say, "hall", "", message)
                self.refused(NoMessage, self.hand, self.hand.say, "hall", None, message)

    def test_an_under_of_another_room(self):
        hand = hand_with(CY1, [deed for deed in TALK if deed[1] in (ANN, ANN1)])
        self.refused(NoMessage, hand, hand.say, "yard", "hi", (1, ANN))
        self.refused(NoMessage, hand, hand.say, "hall", "hi", (4, ANN1))
        self.refused(NoMessage, hand, hand.say, "hall", "", (4, ANN1))
        self.assertEqual(hand.say("yard", "hi", (4, ANN1)), (5, CY1))
        self.assertEqual(hand.say("hall", "hi", (1, ANN)), (6, CY1))

    def test_an_under_that_is_taken_back(self):
        hand = Hand(HOUSE, "ann", 0)
        hand.say("hall", "a")
        hand.say("hall", "b", (1, ANN))
        hand.take_back((1, ANN))
        self.refused(NoMessage, hand, hand.say, "hall", "c", (1, ANN))
        self.refused(NoMessage, hand, hand.take_back, (1, ANN))
        self.refused(NoMessage, hand, hand.change, (1, ANN), "c")
        self.refused(NoMessage, hand, hand.see, (1, ANN))
        self.refused(NoMessage, hand, hand.like, (1, ANN), "good")
        self.assertEqual(hand.say("hall", "c", (2, ANN)), (4, ANN))

    def test_what_does_not_count_until_it_is_heard(self):
        hand = hand_with(CY, log_of((2, BOB, say("b", (1, ANN)))))
        self.refused(NoMessage, hand, hand.see, (2, BOB))
        self.refused(NoMessage, hand, hand.see, (1, ANN))
        hand.hear(log_of((1, ANN, say("a"))))
        self.assertEqual(hand.see((2, BOB)), (3, CY))
        self.assertEqual(hand.see((1, ANN)), (4, CY))

    def test_a_deed_that_is_no_say(self):
        hand = Hand(HOUSE, "ann", 0)
        hand.read("hall")
        hand.hush(HALL)
        for message in [(1, ANN), (2, ANN)]:
            self.refused(NoMessage, hand, hand.see, message)
            self.refused(NoMessage, hand, hand.say, "hall", "hi", message)

    def test_not_yours(self):
        self.refused(NotYours, self.hand, self.hand.change, (1, ANN), "hi")
        self.refused(NotYours, self.hand, self.hand.take_back, (1, ANN))

    def test_not_yours_ahead_of_no_saying(self):
        for saying in NOTHINGS + NO_SAYINGS:
            self.refused(NotYours, self.hand, self.hand.change, (1, ANN), saying)

    def test_no_saying(self):
        mine = self.hand.say("hall", "mine")
        for saying in NOTHINGS + NO_SAYINGS + [["hi"], ("hi",)]:
            self.refused(NoSaying, self.hand, self.hand.say, "hall", saying)
            self.refused(NoSaying, self.hand, self.hand.say, "hall", saying, (1, ANN))
            self.refused(NoSaying, self.hand, self.hand.change, mine, saying)

    def test_no_name(self):
        for sort in NOTHINGS + NO_NAMES + [["good"], ("good",)]:
            self.refused(NoName, self.hand, self.hand.like, (1, ANN), sort)
            self.refused(NoName, self.hand, self.hand.like, (1, ANN), sort, False)

    def test_no_what(self):
        rooms = [("room", thing) for thing in NOTHINGS + ["shed", "bob", "Hall", ["hall"]]]
        people = [("person", thing) for thing in NOTHINGS + ["dan", "hall", "Ann", ["ann"]]]
        unders = [("under", thing) for thing in NO_STAMPS + [None, (1, ("bob", 1))]]
        others = [("message", (1, ANN)), ("rooms", "hall"), ["room", "hall"], ("room",), ("room", "hall", True),
                  ("hall", "room"), ("room", "hall", "yard"), (True, "hall"), (["room"], "hall"), "room hall"]
        for what in NOTHINGS + rooms + people + unders + others:
            self.refused(NoWhat, self.hand, self.hand.hush, what)
            self.refused(NoWhat, self.hand, self.hand.hush, what, False)

    def test_what_is_refused_uses_up_neither_time_nor_number(self):
        hand = hand_with(BOB, TALK)
        for k in range(3):
            self.refused(NoRoom, hand, hand.say, "yard", "hi")
            self.refused(NoSaying, hand, hand.say, "hall", "")
            self.refused(NoMessage, hand, hand.see, (2, CY))
            self.refused(NotYours, hand, hand.take_back, (1, ANN))
            self.refused(NoName, hand, hand.like, (1, ANN), "")
            self.refused(NoWhat, hand, hand.hush, ("room", "shed"))
            self.assertEqual(hand.say("hall", "hi"), (6 + k, BOB))
            self.done(hand, (6 + k, BOB), say("hi"), k)

    def test_who_is_a_member_of_no_room(self):
        house = ((("ann", 1), ("bob", 1)), (("hall", ("ann",)),))
        hand = Hand(house, "bob", 0)
        hand.hear(log_of((1, ANN, say("@bob"))))
        self.refused(NoRoom, hand, hand.say, "hall", "hi")
        self.refused(NoRoom, hand, hand.read, "hall")
        self.refused(NoMessage, hand, hand.see, (1, ANN))
        self.assertEqual(hand.ring(), [])
        self.assertEqual(hand.hush(HALL), (2, BOB))


class RingTest(HandCase):
    def rings(self, place, hand, *stamps):
        """It rings for these, by a rung of each, in this order, one behind the other; and then for none."""
        before = hand.heard()
        self.assertEqual(hand.ring(), list(stamps))
        self.assertEqual(hand.heard()[:len(before)], before)
        new = hand.heard()[len(before):]
        self.assertEqual([deed[3] for deed in new], [("rung", stamp) for stamp in stamps])
        first = before[-1][0] + 1 if before else 1
        self.assertEqual([deed[:2] for deed in new], [(first + k, place) for k in range(len(new))])
        self.assertTrue(is_log(HOUSE, hand.heard()))
        self.assertEqual(hand.ring(), [])
        self.assertEqual(hand.heard(), before + new)

    def test_with_nothing_heard(self):
        self.rings(ANN, Hand(HOUSE, "ann", 0))

    def test_each_message_once(self):
        hand = hand_with(BOB, log_of((1, ANN, say("a")), (2, CY, say("@bob")), (3, CY, say("b", (1, ANN))),
                                     (4, CY, say("c", None, "yard"))))
        self.rings(BOB, hand, (1, ANN), (2, CY), (3, CY))
        hand.hear(log_of((4, ANN1, say("late"))))
        self.rings(BOB, hand, (4, ANN1))

    def test_in_the_order_of_stamps_not_of_rows(self):
        hand = hand_with(BOB, log_of((1, ANN, say("a")), (2, CY, say("b")), (10, ANN, say("c", (1, ANN))),
                                     (9, CY, say("d"))))
        self.rings(BOB, hand, (1, ANN), (2, CY), (9, CY), (10, ANN))

    def test_not_for_one_s_own(self):
        hand = Hand(HOUSE, "ann", 0)
        hand.say("hall", "@ann")
        self.rings(ANN, hand)

    def test_not_for_what_was_read_seen_or_hushed(self):
        for act in [lambda hand: hand.read("hall"), lambda hand: hand.see((1, ANN)), lambda hand: hand.hush(HALL),
                    lambda hand: hand.hush(("person", "ann")), lambda hand: hand.hush(under(1, ANN))]:
            hand = hand_with(BOB, log_of((1, ANN, say("a"))))
            act(hand)
            self.rings(BOB, hand)

    def test_hushed_and_no_longer(self):
        hand = hand_with(BOB, log_of((1, ANN, say("a"))))
        hand.hush(HALL)
        self.rings(BOB, hand)
        hand.hush(HALL, False)
        self.rings(BOB, hand, (1, ANN))

    def test_not_where_it_rang_at_another_hand(self):
        one = hand_with(CY, log_of((1, ANN, say("a"))))
        other = hand_with(CY1, log_of((1, ANN, say("a")), (2, ANN, say("b"))))
        self.rings(CY, one, (1, ANN))
        other.hear(one.heard())
        self.rings(CY1, other, (2, ANN))

    def test_at_both_hands_where_neither_has_heard_of_the_other(self):
        for hand in [CY, CY1]:
            self.rings(hand, hand_with(hand, log_of((1, ANN, say("a")))), (1, ANN))

    def test_not_for_what_was_read_at_another_hand(self):
        one = hand_with(CY, log_of((1, ANN, say("a"))))
        one.read("hall")
        other = hand_with(CY1, one.heard())
        self.rings(CY1, other)

    def test_by_its_log_as_it_is_then(self):
        # The bells of one round are found at once: no rung among them changes what is due.
        hand = hand_with(CY, log_of(*[(k, ANN, say("a")) for k in range(1, 60)]))
        self.rings(CY, hand, *[(k, ANN) for k in range(1, 60)])

    def test_lists_are_the_asker_s_own(self):
        hand = hand_with(BOB, log_of((1, ANN, say("a"))))
        told = hand.ring()
        told.append(None)
        self.assertEqual(hand.ring(), [])
        self.assertIsInstance(hand.ring(), list)


if __name__ == "__main__":
    unittest.main()
