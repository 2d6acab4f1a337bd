import random
import unittest

from plain_hall import FORMS, PlainHall, chance_row
from samples import ANN, ANN1, BOB, CY, CY1, CY2, HOUSE, NOTHINGS, hush, log_of, say, under
from tellings import told
from talkmarks.errors import Clash, NoMessage, NoRoom, NoRow, NotYours, NoWhat, Strange, TalkError
from talkmarks.halls import Hall
from talkmarks.hands import Hand
from talkmarks.houses import hands_of
from talkmarks.logs import is_log

# Somebody is a member of no room here.
LONELY = ((("ann", 1), ("bob", 1), ("cy", 1)), (("hall", ("ann", "bob")),))


class HallCase(unittest.TestCase):
    def setUp(self):
        self.hall = Hall(HOUSE)

    def logs(self):
        return [self.hall.hand_at(name, k).heard() for name, k in hands_of(HOUSE)]

    def talk(self, *rows):
        """Rows and their answers, by turns."""
        for row, answer in zip(rows[::2], rows[1::2], strict=True):
            self.assertEqual(self.hall.say_row(row), answer, row)
        for log in self.logs():
            self.assertTrue(is_log(HOUSE, log))

    def last(self, hand, act):
        self.assertEqual(self.hall.hand_at(hand[0], hand[1]).heard()[-1][3], act)

    def refused(self, error, *rows):
        before = self.logs()
        for row in rows:
            with self.assertRaises(TalkError) as caught:
                self.hall.say_row(row)
            self.assertIs(type(caught.exception), error, repr(row)[:200])
            self.assertEqual(self.logs(), before, row)


class HandAtTest(HallCase):
    def test_all_hands_of_the_house_each_with_its_own_log(self):
        for name, k in hands_of(HOUSE):
            hand = self.hall.hand_at(name, k)
            self.assertIsInstance(hand, Hand)
            self.assertEqual(hand.heard(), ())
            self.assertEqual(hand.say("hall", "hi"), (1, (name, k)))
        self.assertEqual(self.logs(), [((1, hand, 0, say("hi")),) for hand in hands_of(HOUSE)])

    def test_the_hand_itself(self):
        self.assertIs(self.hall.hand_at("ann", 1), self.hall.hand_at("ann", 1))
        self.assertIsNot(self.hall.hand_at("ann", 1), self.hall.hand_at("ann", 0))
        self.assertIsNot(self.hall.hand_at("ann", 1), Hall(HOUSE).hand_at("ann", 1))

    def test_what_a_hand_does_by_itself_is_there_for_the_next_row(self):
        self.hall.hand_at("ann", 0).say("hall", "hi")
        self.hall.hand_at("ann", 0).hush(("room", "yard"))
        self.talk("ann0 shows hall", "1ann0 ann hi", "ann0 say hall ho", "3ann0", "ann0 tells bob0", "3",
                  "bob0 rings", "1ann0 3ann0")
        self.hall.hand_at("bob", 0).take_back(self.hall.hand_at("bob", 0).say("hall", "oh"))
        self.talk("bob0 shows hall", "1ann0 ann hi\n3ann0 ann ho")

    def test_what_a_row_does_is_there_for_the_hand(self):
        self.talk("ann0 say hall hi", "1ann0", "ann0 tells bob0", "1")
        bob = self.hall.hand_at("bob", 0)
        self.assertEqual(bob.heard(), ((1, ANN, 0, say("hi")),))
        self.assertEqual(bob.ring(), [(1, ANN)])
        self.talk("bob0 rings", "none")
        self.assertEqual(bob.like((1, ANN), "good"), (3, BOB))
        self.talk("bob0 shows hall", "1ann0 ann hi good*1")

    def test_two_halls_are_two(self):
        other = Hall(HOUSE)
        self.talk("ann0 say hall hi", "1ann0")
        self.assertEqual(other.say_row("ann0 shows hall"), "none")
        self.assertEqual(other.hand_at("ann", 0).heard(), ())


class TellTest(HallCase):
    def setUp(self):
        HallCase.setUp(self)
        for k in range(5):
            self.hall.hand_at("ann", 0).say("hall", "hi")

    def test_all(self):
        self.assertEqual(self.hall.tell(ANN, BOB), 5)
        self.assertEqual(self.hall.hand_at("bob", 0).heard(), self.hall.hand_at("ann", 0).heard())
        self.assertEqual(self.hall.tell(ANN, BOB), 0)
        self.assertEqual(self.hall.tell(BOB, CY2, None), 5)

    def test_many(self):
        log = self.hall.hand_at("ann", 0).heard()
        self.assertEqual(self.hall.tell(ANN, BOB, 0), 0)
        self.assertEqual(self.hall.hand_at("bob", 0).heard(), ())
        self.assertEqual(self.hall.tell(ANN, BOB, 2), 2)
        self.assertEqual(self.hall.hand_at("bob", 0).heard(), log[:2])
        self.assertEqual(self.hall.tell(ANN, BOB, many=1), 1)
        self.assertEqual(self.hall.hand_at("bob", 0).heard(), log[:3])
        self.assertEqual(self.hall.tell(ANN, BOB, 99), 2)
        self.assertEqual(self.hall.tell(ANN, BOB, 99), 0)

    def test_itself(self):
        for many in [None, 0, 1, 9]:
            self.assertEqual(self.hall.tell(ANN, ANN, many), 0)

    def test_the_other_s_own_deeds_stay_and_the_teller_hears_nothing(self):
        self.hall.hand_at("bob", 0).say("hall", "ho")
        teller = self.hall.hand_at("ann", 0).heard()
        self.assertEqual(self.hall.tell(ANN, BOB), 5)
        self.assertEqual(len(self.hall.hand_at("bob", 0).heard()), 6)
        self.assertEqual(self.hall.hand_at("ann", 0).heard(), teller)

    def test_what_it_heard_of_others_is_told_on(self):
        self.hall.tell(ANN, BOB)
        self.hall.hand_at("bob", 0).say("hall", "ho")
        self.assertEqual(self.hall.tell(BOB, CY), 6)
        self.assertEqual(self.hall.tell(CY, ANN), 1)

    def test_refusals_as_for_what_is_heard(self):
        forged = ((1, CY, 0, say("forged")), (2, CY, 1, say("forged")))
        self.hall.hand_at("ann", 1).hear(forged)
        before = self.logs()
        for ask in [lambda: self.hall.tell(ANN1, CY), lambda: self.hall.say_row("ann1 tells cy0"),
                    lambda: self.hall.say_row("ann1 tells cy0 1")]:
            self.assertEqual(told(ask)[0], Strange)
            self.assertEqual(self.logs(), before)
        self.hall.hand_at("bob", 0).hear(log_of((3, CY, say("other"))))
        # What bob lacks begins behind the deed of which they tell unlike things: its time is the lesser.
        self.assertEqual(told(self.hall.say_row, "ann1 tells bob0"), (Clash, CY, 1))


class DeedRowsTest(HallCase):
    def test_say(self):
        self.talk("ann0 say hall hi", "1ann0", "ann0 say yard ho", "2ann0", "cy2 say hall @ann", "1cy2")
        self.assertEqual([deed[3] for deed in self.logs()[0]], [say("hi"), say("ho", None, "yard")])

    def test_saying_with_blanks_ahead_behind_and_within(self):
        for k, saying in enumerate([" hi", "hi ", "  hi  there  ", " ", "   ", "a b c d", "~!\"#$&", "say hall hi",
                                    "x" * 60, " " * 60, "none", "@ann; *2"]):
            self.talk("ann0 say hall " + saying, f"{3 * k + 1}ann0")
            self.last(ANN, say(saying))
            self.talk(f"ann0 answer {3 * k + 1}ann0 " + saying, f"{3 * k + 2}ann0")
            self.last(ANN, say(saying, (3 * k + 1, ANN)))
            self.talk(f"ann0 change {3 * k + 2}ann0 " + saying, f"{3 * k + 3}ann0")
            self.last(ANN, ("change", (3 * k + 2, ANN), saying))

    def test_answer_in_that_message_s_room(self):
        self.talk("ann0 say yard hi", "1ann0", "ann0 say hall ho", "2ann0", "ann0 answer 1ann0 a", "3ann0",
                  "ann0 answer 2ann0 b", "4ann0", "ann0 answer 3ann0 c", "5ann0")
        self.assertEqual([deed[3] for deed in self.logs()[0]][2:],
                         [say("a", (1, ANN), "yard"), say("b", (2, ANN)), say("c", (3, ANN), "yard")])

    def test_change_and_back(self):
        self.talk("ann0 say hall hi", "1ann0", "ann0 change 1ann0 ho", "2ann0")
        self.last(ANN, ("change", (1, ANN), "ho"))
        self.talk("ann0 back 1ann0", "3ann0")
        self.last(ANN, ("back", (1, ANN)))

    def test_like_and_unlike(self):
        self.talk("ann0 say hall hi", "1ann0", "ann0 tells bob0", "1", "bob0 like 1ann0 good", "2bob0")
        self.last(BOB, ("like", (1, ANN), "good", True))
        self.talk("bob0 unlike 1ann0 good", "3bob0")
        self.last(BOB, ("like", (1, ANN), "good", False))
        self.talk("bob0 like 1ann0 abcdefgh", "4bob0", "bob0 unlike 1ann0 x", "5bob0")

    def test_read_and_seen(self):
        self.talk("ann0 say hall hi", "1ann0", "ann0 tells bob0", "1", "bob0 seen 1ann0", "2bob0")
        self.last(BOB, ("seen", (1, ANN)))
        self.talk("bob0 read hall", "3bob0")
        self.last(BOB, ("read", "hall", ((ANN, 1), (BOB, 1))))

    def test_hush_and_unhush(self):
        whats = [("room hall", ("room", "hall")), ("room yard", ("room", "yard")), ("person ann", ("person", "ann")),
                 ("person bob", ("person", "bob")), ("under 7cy2", under(7, CY2)),
                 ("under 999999999999bob0", under(999999999999, BOB))]
        for k, (words, what) in enumerate(whats):
            self.talk("bob0 hush " + words, f"{2 * k + 1}bob0")
            self.last(BOB, hush(what))
            self.talk("bob0 unhush " + words, f"{2 * k + 2}bob0")
            self.last(BOB, hush(what, False))

    def test_times_of_more_figures(self):
        self.hall.hand_at("bob", 0).hear(log_of((999999999998, ANN, say("hi"))))
        self.talk("bob0 answer 999999999998ann0 ho", "999999999999bob0")


class AskRowsTest(HallCase):
    def test_tells(self):
        self.talk("ann0 say hall a", "1ann0", "ann0 say hall b", "2ann0", "ann0 say hall c", "3ann0",
                  "ann0 tells bob0 0", "0", "bob0 shows hall", "none", "ann0 tells bob0 1", "1",
                  "bob0 shows hall", "1ann0 ann a", "ann0 tells bob0", "2", "ann0 tells bob0", "0",
                  "ann0 tells cy1 999999999999", "3", "ann0 tells ann0", "0", "ann0 tells ann0 5", "0",
                  "bob0 tells ann0", "0", "cy1 tells ann1 2", "2", "ann1 tells cy2 10", "2")

    def test_parcels_rise_by_stamps_of_all_hands(self):
        self.talk("ann0 say hall a", "1ann0", "ann0 tells bob0", "1", "bob0 say hall b", "2bob0",
                  "bob0 tells ann0", "1", "ann0 say hall c", "3ann0", "ann0 tells cy0 2", "2")
        self.assertEqual(self.hall.hand_at("cy", 0).heard(), self.hall.hand_at("ann", 0).heard()[:2])

    def test_rings(self):
        self.talk("ann0 rings", "none", "ann0 say hall a", "1ann0", "ann0 rings", "none", "ann0 tells bob0", "1",
                  "bob0 rings", "1ann0", "bob0 rings", "none", "ann0 say hall b", "2ann0", "ann0 say hall c", "3ann0",
                  "ann0 tells bob0", "2", "bob0 rings", "2ann0 3ann0", "bob0 rings", "none")
        self.last(BOB, ("rung", (3, ANN)))

    def test_shows_nothing(self):
        self.talk("ann0 shows hall", "none", "ann0 shows yard", "none", "ann0 say hall a", "1ann0",
                  "ann0 shows yard", "none", "ann0 back 1ann0", "2ann0", "ann0 shows hall", "none")

    def test_shows_depths(self):
        self.talk("ann0 say hall a", "1ann0", "ann0 say hall b", "2ann0", "ann0 answer 1ann0 c", "3ann0",
                  "ann0 answer 3ann0 d", "4ann0", "ann0 answer 1ann0 e", "5ann0", "ann0 shows hall",
                  "1ann0 ann a\n  3ann0 ann c\n    4ann0 ann d\n  5ann0 ann e\n2ann0 ann b")

    def test_shows_what_is_taken_back_above(self):
        self.talk("ann0 say hall a", "1ann0", "ann0 answer 1ann0 b", "2ann0", "ann0 answer 2ann0 c", "3ann0",
                  "ann0 back 1ann0", "4ann0", "ann0 shows hall", "  2ann0 ann b\n    3ann0 ann c",
                  "ann0 back 2ann0", "5ann0", "ann0 shows hall", "    3ann0 ann c",
                  "ann0 back 3ann0", "6ann0", "ann0 shows hall", "none")

    def test_shows_what_is_said_now(self):
        self.talk("ann0 say hall a", "1ann0", "ann0 change 1ann0  b  ", "2ann0", "ann0 shows hall", "1ann0 ann  b  ",
                  "ann0 change 1ann0 good*2", "3ann0", "ann0 shows hall", "1ann0 ann good*2")

    def test_shows_likes_of_several_sorts(self):
        self.talk("ann0 say hall hi @bob", "1ann0", "ann0 tells bob0", "1", "ann0 tells cy0", "1",
                  "bob0 like 1ann0 good", "2bob0", "cy0 like 1ann0 good", "2cy0", "bob0 like 1ann0 bad", "3bob0",
                  "ann0 like 1ann0 x", "2ann0", "bob0 tells ann0", "2", "cy0 tells ann0", "1",
                  "ann0 shows hall", "1ann0 ann hi @bob bad*1 good*2 x*1",
                  "ann0 unlike 1ann0 x", "4ann0", "ann0 shows hall", "1ann0 ann hi @bob bad*1 good*2",
                  "bob0 shows hall", "1ann0 ann hi @bob bad*1 good*1", "cy0 shows hall", "1ann0 ann hi @bob good*1")

    def test_shows_as_in_the_document(self):
        bob = self.hall.hand_at("bob", 0)
        bob.hear(log_of((11, CY, say("x")), (12, ANN, say("hi @bob", (11, CY))),
                        (13, CY1, ("like", (12, ANN), "good", True))))
        bob.like((12, ANN), "good")
        self.talk("bob0 shows hall", "11cy0 cy x\n  12ann0 ann hi @bob good*2")

    def test_shows_the_person_at_whatever_hand(self):
        self.talk("cy2 say hall a", "1cy2", "cy2 tells ann1", "1", "ann1 answer 1cy2 b", "2ann1",
                  "ann1 shows hall", "1cy2 cy a\n  2ann1 ann b")

    def test_shows_only_what_the_hand_has_heard(self):
        self.talk("ann0 say hall a", "1ann0", "ann0 tells bob0", "1", "bob0 answer 1ann0 b", "2bob0",
                  "bob0 tells cy0", "2", "ann0 shows hall", "1ann0 ann a",
                  "cy0 shows hall", "1ann0 ann a\n  2bob0 bob b", "cy1 shows hall", "none")

    def test_new(self):
        self.talk("ann0 new", "hall 0 0; yard 0 0", "bob0 new", "hall 0 0", "cy0 say hall @ann", "1cy0",
                  "cy0 say hall b", "2cy0", "cy0 say hall c", "3cy0", "cy0 tells ann1", "3",
                  "ann1 new", "hall 3 1; yard 0 0", "ann0 new", "hall 0 0; yard 0 0", "cy0 new", "hall 0 0; yard 0 0",
                  "cy0 say yard @ann", "4cy0", "cy0 tells ann1", "1", "ann1 new", "hall 3 1; yard 1 1",
                  "ann1 seen 2cy0", "5ann1", "ann1 new", "hall 2 1; yard 1 1", "ann1 read hall", "6ann1",
                  "ann1 new", "hall 0 0; yard 1 1", "ann1 tells ann0", "6", "ann0 new", "hall 0 0; yard 1 1")

    def test_new_of_who_is_a_member_of_no_room(self):
        hall = Hall(LONELY)
        self.assertEqual(hall.say_row("cy0 new"), "none")
        hall.say_row("ann0 say hall @cy")
        hall.say_row("ann0 tells cy0")
        self.assertEqual(hall.say_row("cy0 new"), "none")
        self.assertEqual(hall.say_row("cy0 rings"), "none")
        self.assertEqual(told(hall.say_row, "cy0 shows hall")[0], NoRoom)
        self.assertEqual(hall.say_row("ann0 new"), "hall 0 0")

    def test_rows_that_ask_change_nothing(self):
        self.talk("ann0 say hall a @bob", "1ann0", "ann0 tells bob0", "1", "bob0 like 1ann0 good", "2bob0")
        before = self.logs()
        for k in range(3):
            self.talk("bob0 shows hall", "1ann0 ann a @bob good*1", "bob0 new", "hall 1 1", "ann0 new",
                      "hall 0 0; yard 0 0", "ann0 shows yard", "none")
        self.refused(NoRoom, "bob0 shows yard", "bob0 shows shed")
        self.assertEqual(self.logs(), before)
        self.talk("bob0 rings", "1ann0", "ann0 say hall b", "2ann0")


class NoRowTest(HallCase):
    def setUp(self):
        HallCase.setUp(self)
        self.talk("ann0 say hall hi", "1ann0", "ann0 tells bob0", "1", "bob0 say hall ho", "2bob0")

    def test_no_texts(self):
        self.refused(NoRow, *NOTHINGS)
        self.refused(NoRow, ["ann0 say hall hi"], ("ann0 say hall hi",), ["ann0", "say", "hall", "hi"],
                     ("ann0", "new"), [ANN, "new"], 12)

    def test_hands_that_are_none_or_none_of_the_house(self):
        for hand in ["", "ann", "0", "ann2", "ann00", "ann01", "ann-1", "bob1", "cy3", "cy10", "dan0", "Ann0", "ANN0",
                     "0ann", "ann0ann0", "ann 0", "\tann0", "ann0\n", "anna0", "an0", "('ann', 0)",
                     "ann0000000000000"]:
            self.refused(NoRow, hand + " new", hand + " rings", hand + " say hall hi", hand + " shows hall",
                         hand + " tells bob0", hand, "ann0 tells " + hand, "ann0 tells " + hand + " 1",
                         hand + " back 1ann0", "ann0 back 1" + hand, "ann0 hush under 1" + hand)

    def test_verbs_that_are_none(self):
        for verb in ["", "says", "SAY", "Say", "tell", "ring", "show", "news", "see", "take_back", "unread", "hushes",
                     "say\n", "new\t", "\nnew", "unsay", "none", "hand", "HAND", "0"]:
            self.refused(NoRow, "ann0 " + verb, "ann0 " + verb + " hall", "ann0 " + verb + " hall hi",
                         "ann0 " + verb + " 1ann0", "ann0 " + verb + " 1ann0 good", "ann0 " + verb + " bob0")
        self.refused(NoRow, "", " ", "  ", "\n", "ann0", "ann0 ", "new", "new ann0", "say hall hi", "hi")

    def test_words_too_few(self):
        self.refused(NoRow, "ann0 say", "ann0 say hall", "ann0 say hi", "ann0 answer", "ann0 answer 1ann0",
                     "ann0 change", "ann0 change 1ann0", "ann0 back", "ann0 like", "ann0 like 1ann0", "ann0 unlike",
                     "ann0 unlike 1ann0", "ann0 like good", "ann0 read", "ann0 seen", "ann0 hush", "ann0 hush room",
                     "ann0 hush hall", "ann0 hush person", "ann0 hush under", "ann0 unhush", "ann0 unhush room",
                     "ann0 unhush person", "ann0 unhush under", "ann0 hush 1ann0", "ann0 tells", "ann0 shows")

    def test_words_too_many(self):
        self.refused(NoRow, "ann0 back 1ann0 1ann0", "ann0 like 1ann0 good good", "ann0 unlike 1ann0 good bad",
                     "ann0 read hall hall", "ann0 seen 1ann0 x", "ann0 hush room hall yard", "ann0 hush person ann x",
                     "ann0 hush under 1ann0 x", "ann0 unhush room hall x", "ann0 tells bob0 1 2", "ann0 tells bob0 cy0",
                     "ann0 rings bob0", "ann0 rings hall", "ann0 shows hall yard", "ann0 new hall", "ann0 new new",
                     "ann0 ann0 new")

    def test_blanks_ahead_behind_and_two_together(self):
        rows = ["ann0 say hall hi", "ann0 answer 1ann0 hi", "ann0 change 1ann0 hi", "ann0 back 1ann0",
                "ann0 like 1ann0 good", "ann0 unlike 1ann0 good", "ann0 read hall", "ann0 seen 1ann0",
                "ann0 hush room hall", "ann0 hush person bob", "ann0 unhush under 1ann0", "ann0 tells bob0",
                "ann0 tells bob0 3", "ann0 rings", "ann0 shows hall", "ann0 new"]
        for row in rows:
            words = row.split(" ")
            self.refused(NoRow, " " + row)
            whole = 3 if words[1] in ["say", "answer", "change"] else len(words)
            for k in range(1, whole):
                # Ahead of a saying two blanks are allowed: the second one is the saying's.
                self.refused(NoRow, " ".join(words[:k]) + "  " + " ".join(words[k:]),
                             " ".join(words[:k]) + "\t" + " ".join(words[k:]),
                             " ".join(words[:k]) + "\n" + " ".join(words[k:]))
            if whole == len(words):
                self.refused(NoRow, row + " ", row + "\n", row + "\t", row + "  ")

    def test_figures(self):
        for figures in ["", "0", "00", "01", "012", "000000000001", "1234567890123", "1000000000000", "9" * 30, "+1",
                        "-1", "1.0", "1_0", "1 ", "one", "x1", "1\n", "0x1"]:
            message = figures + "ann0"
            self.refused(NoRow, f"ann0 back {message}", f"ann0 seen {message}", f"ann0 like {message} good",
                         f"ann0 unlike {message} good", f"ann0 change {message} hi", f"ann0 answer {message} hi",
                         f"ann0 hush under {message}", f"ann0 unhush under {message}")
            if figures != "0":
                self.refused(NoRow, f"ann0 tells bob0 {figures}")
        self.talk("ann0 tells bob0 0", "0")

    def test_rooms_names_and_sorts_that_are_no_names(self):
        for name in ["", "Hall", "HALL", "hall1", "abcdefghi", "hall\n", "\thall", "@ann", "1ann0", "ann0", "*"]:
            self.refused(NoRow, f"ann0 say {name} hi", f"ann0 read {name}", f"ann0 shows {name}",
                         f"ann0 hush room {name}", f"ann0 unhush room {name}", f"ann0 hush person {name}",
                         f"ann0 unhush person {name}", f"ann0 like 1ann0 {name}", f"ann0 unlike 1ann0 {name}")

    def test_whats_that_are_none(self):
        self.refused(NoRow, "ann0 hush rooms hall", "ann0 hush Room hall", "ann0 hush message 1ann0",
                     "ann0 hush room 1ann0", "ann0 hush person 1ann0", "ann0 hush under hall", "ann0 hush under ann0",
                     "ann0 hush hall room", "ann0 hush under None")

    def test_sayings_that_are_none(self):
        for saying in ["", "x" * 61, " " * 61, "hi\n", "\thi", "h\ni", "\n", "\t"]:
            self.refused(NoRow, "ann0 say hall " + saying, "ann0 answer 1ann0 " + saying, "bob0 answer 2bob0 " + saying,
                         "ann0 change 1ann0 " + saying)

    def test_ahead_of_other_refusals(self):
        for saying in ["", "x" * 61, " " * 61, "\n", "@ann, \n", "a\ttab"]:
            # No such room, not a member's, no such message, somebody else's.
            self.refused(NoRow, "ann0 say shed " + saying, "bob0 say yard " + saying, "ann0 change 9ann0 " + saying,
                         "bob0 change 1ann0 " + saying, "ann0 answer 9ann0 " + saying, "bob0 answer 1ann0 " + saying)
        self.refused(NoRow, "ann0 like 9ann0 Good", "bob0 like 1ann0 good1", "ann0 like 9ann0 ")
        self.refused(NoRow, "bob0 shows yard x", "bob0 read yard x", "bob0 read shed ")


class RefusedRowsTest(HallCase):
    def setUp(self):
        HallCase.setUp(self)
        self.talk("ann0 say hall hi", "1ann0", "ann0 say yard ho", "2ann0", "ann0 say hall oh", "3ann0",
                  "ann0 back 3ann0", "4ann0", "ann0 tells bob0", "4", "ann0 tells cy0", "4")

    def test_no_room(self):
        self.refused(NoRoom, "ann0 say shed hi", "bob0 say yard hi", "bob0 say abcdefgh hi", "ann0 read shed",
                     "bob0 read yard", "ann0 shows shed", "bob0 shows yard", "ann0 say ann hi")

    def test_no_message(self):
        for message in ["2ann0", "3ann0", "4ann0", "1ann1", "1bob0", "9cy2", "999999999999ann0"]:
            self.refused(NoMessage, f"bob0 answer {message} hi", f"bob0 change {message} hi", f"bob0 back {message}",
                         f"bob0 like {message} good", f"bob0 unlike {message} good", f"bob0 seen {message}")

    def test_not_yours(self):
        self.refused(NotYours, "bob0 change 1ann0 hi", "bob0 back 1ann0", "cy0 change 2ann0 hi", "cy0 back 2ann0")

    def test_no_what(self):
        self.refused(NoWhat, "ann0 hush room shed", "ann0 unhush room shed", "ann0 hush person dan",
                     "ann0 unhush person dan", "ann0 hush room ann", "ann0 hush person hall", "ann0 hush room abcdefgh")

    def test_answer_refuses_no_message_ahead_of_all(self):
        # Not NoRoom, though the first one is of a room of which bob is no member.
        for message in ["2ann0", "3ann0", "9cy2"]:
            for saying in ["hi", " ", "x" * 60, "  ~"]:
                self.refused(NoMessage, f"bob0 answer {message} {saying}")

    def test_whether_an_answer_is_a_row_is_asked_first(self):
        for message in ["1ann0", "2ann0", "3ann0", "9cy2"]:
            for saying in ["", "x" * 61, " " * 61, "hi\n", "\t", "a\tb"]:
                self.refused(NoRow, f"bob0 answer {message} {saying}")
            self.refused(NoRow, f"bob0 answer {message}", f"bob1 answer {message} hi")
        self.refused(NoRow, "bob0 answer 9cy3 hi")

    def test_rows_go_on_behind_a_refusal(self):
        self.refused(NoRoom, "bob0 say yard hi")
        self.refused(NoMessage, "bob0 answer 2ann0 hi")
        self.refused(NoRow, "bob0 say hall ")
        self.talk("bob0 say hall hi", "5bob0", "bob0 answer 1ann0 ho", "6bob0")
        self.assertEqual([deed[2] for deed in self.hall.hand_at("bob", 0).heard() if deed[1] == BOB], [0, 1])


class ChanceRowsTest(HallCase):
    def test_chance_rows(self):
        met = {}
        for seed in range(40):
            chance = random.Random(seed)
            plain = PlainHall()
            self.hall = Hall(HOUSE)
            said = ["1ann0"]
            for k in range(150):
                row = chance_row(chance, said)
                due = told(plain.say_row, row)
                self.assertEqual(told(self.hall.say_row, row), due, row)
                verb = row.split(" ")[1]
                if verb in ["say", "answer"] and isinstance(due, str):
                    said.append(due)
                kind = due[0] if isinstance(due, tuple) else verb
                met[kind] = met.get(kind, 0) + 1
                if k % 30 == 29:
                    self.assertEqual(self.logs(), [plain.hands[hand].heard() for hand in hands_of(HOUSE)])
        for kind in [NoRow, NoRoom, NoMessage, NotYours, NoWhat] + [form.split(" ")[0] for form in FORMS]:
            self.assertGreater(met.get(kind, 0), 5, (kind, met))


if __name__ == "__main__":
    unittest.main()
