import itertools
import unittest

from chance_logs import Plain, chance_log, chance_parts
from samples import ANN, ANN1, BOB, CY, CY1, CY2, HOUSE, NOTHINGS, log_of, say
from talkmarks.errors import NoMessage
from talkmarks.logs import is_log, joined_logs, vector_of
from talkmarks.messages import messages_of
from talkmarks.reads import has_read, readers_of

MESSAGE = (3, ANN)
SAID = (3, ANN, say("a"))
SAID_IN_YARD = (3, ANN, say("a", None, "yard"))
EVERYBODY = ["ann", "bob", "cy"]


def read(*pairs, room="hall"):
    return ("read", room, tuple(pairs))


def seen(time, hand):
    return ("seen", (time, hand))


class ReadsTest(unittest.TestCase):
    def read_by(self, log, stamp, *names):
        self.assertTrue(is_log(HOUSE, log))
        self.assertEqual([name for name in EVERYBODY if has_read(HOUSE, log, name, stamp) is True], list(names))
        self.assertEqual([name for name in EVERYBODY if has_read(HOUSE, log, name, stamp) is not False], list(names))

    def test_its_writer_alone(self):
        self.read_by(log_of(SAID), MESSAGE, "ann")
        self.read_by(log_of((3, CY2, say("a", None, "yard"))), (3, CY2), "cy")

    def test_a_read_that_has_it_within(self):
        self.read_by(log_of(SAID, (4, BOB, read((ANN, 1)))), MESSAGE, "ann", "bob")
        self.read_by(log_of(SAID, (4, BOB, read((ANN, 9)))), MESSAGE, "ann", "bob")
        self.read_by(log_of(SAID, (4, BOB, read((ANN, 1), (ANN1, 4), (CY, 2)))), MESSAGE, "ann", "bob")
        self.read_by(log_of(SAID, (4, BOB, read((ANN, 1), (CY, 2)))), MESSAGE, "ann", "bob")

    def test_a_read_that_has_it_not(self):
        for vector in [(), ((ANN1, 5),), ((ANN1, 5), (BOB, 5), (CY, 5), (CY1, 5), (CY2, 5))]:
            self.read_by(log_of(SAID, (4, BOB, read(*vector))), MESSAGE, "ann")

    def test_a_count_is_greater_than_the_number(self):
        log = log_of((1, ANN, say("a")), (2, ANN, seen(1, ANN)), (3, ANN, say("b")), (4, ANN, say("c")))
        for count, stamps in [(1, [1]), (2, [1]), (3, [1, 3]), (4, [1, 3, 4]), (5, [1, 3, 4])]:
            more = joined_logs(log, log_of((5, BOB, read((ANN, count)))))
            self.assertEqual([k for k in (1, 3, 4) if has_read(HOUSE, more, "bob", (k, ANN))], stamps)

    def test_a_read_of_another_room(self):
        self.read_by(log_of(SAID, (4, CY, read((ANN, 1), room="yard"))), MESSAGE, "ann")
        self.read_by(log_of(SAID_IN_YARD, (4, CY, read((ANN, 1)))), MESSAGE, "ann")
        self.read_by(log_of(SAID_IN_YARD, (4, CY, read((ANN, 1), room="yard"))), MESSAGE, "ann", "cy")
        log = log_of((1, ANN, say("a")), (2, ANN, say("b", None, "yard")), (3, CY, read((ANN, 2))))
        self.read_by(log, (1, ANN), "ann", "cy")
        self.read_by(log, (2, ANN), "ann")

    def test_heard_later_than_what_was_read(self):
        # At cy0 only ann0's second say was known; ann1's has a lesser stamp, yet it isn't read.
        here = log_of((1, ANN, say("a")), (5, ANN, say("b")))
        here = joined_logs(here, log_of((6, CY, read(*vector_of(here)))))
        log = joined_logs(here, log_of((2, ANN1, say("c"))))
        self.read_by(log, (1, ANN), "ann", "cy")
        self.read_by(log, (5, ANN), "ann", "cy")
        self.read_by(log, (2, ANN1), "ann")

    def test_a_read_ahead_of_its_say_by_stamps(self):
        self.read_by(log_of(SAID, (1, BOB, read((ANN, 1)))), MESSAGE, "ann", "bob")
        self.read_by(log_of(SAID, (1, BOB, seen(3, ANN))), MESSAGE, "ann", "bob")

    def test_several_reads_each_by_itself(self):
        log = log_of((1, ANN, say("a")), (2, ANN, say("b")), (3, CY, say("c")), (4, BOB, read((ANN, 2))),
                     (5, BOB, read((ANN, 1))), (6, BOB, read((CY, 1))), (7, BOB, read()))
        for stamp in [(1, ANN), (2, ANN), (3, CY)]:
            self.read_by(log, stamp, *sorted(["bob", stamp[1][0]]))
        # None of these tells more than its own room.
        log = log_of((1, ANN, say("a")), (2, BOB, read((CY, 3))), (3, BOB, read((ANN, 1), room="yard")))
        self.read_by(log, (1, ANN), "ann")

    def test_seen(self):
        self.read_by(log_of(SAID, (4, CY1, seen(3, ANN))), MESSAGE, "ann", "cy")
        self.read_by(log_of(SAID, (4, CY1, seen(3, ANN1)), (5, CY, seen(4, ANN)), (6, CY, seen(3, CY))), MESSAGE, "ann")

    def test_seen_tells_nothing_of_what_stands_around(self):
        log = log_of((1, ANN, say("a")), (2, ANN, say("b", (1, ANN))), (3, ANN, say("c", (2, ANN))),
                     (4, BOB, seen(2, ANN)))
        self.read_by(log, (1, ANN), "ann")
        self.read_by(log, (2, ANN), "ann", "bob")
        self.read_by(log, (3, ANN), "ann")

    def test_other_acts_are_no_reading(self):
        log = log_of(SAID, (4, BOB, ("like", MESSAGE, "good", True)), (5, BOB, ("rung", MESSAGE)),
                     (6, BOB, ("hush", ("under", MESSAGE), True)), (7, BOB, say("b", MESSAGE)),
                     (8, BOB, ("change", MESSAGE, "c")), (9, BOB, ("back", MESSAGE)))
        self.read_by(log, MESSAGE, "ann")

    def test_at_another_hand_of_the_same_person(self):
        for act in [read((ANN, 1)), seen(3, ANN)]:
            for hand in [CY, CY1, CY2]:
                self.read_by(log_of(SAID, (4, hand, act)), MESSAGE, "ann", "cy")

    def test_a_writer_s_own_message_at_another_hand(self):
        self.read_by(log_of((1, CY2, say("a")), (2, CY, say("b"))), (1, CY2), "cy")

    def test_who_is_no_member_can_have_read_it(self):
        for act in [read((ANN, 1), room="yard"), seen(3, ANN)]:
            log = log_of(SAID_IN_YARD, (4, BOB, act))
            self.read_by(log, MESSAGE, "ann", "bob")
            self.assertEqual(readers_of(HOUSE, log, MESSAGE), ["ann"])

    def test_readers(self):
        log = log_of((1, CY, say("a")))
        self.assertEqual(readers_of(HOUSE, log, (1, CY)), ["cy"])
        log = joined_logs(log, log_of((2, BOB, seen(1, CY))))
        self.assertEqual(readers_of(HOUSE, log, (1, CY)), ["bob", "cy"])
        log = joined_logs(log, log_of((3, ANN1, read((CY, 1)))))
        self.assertEqual(readers_of(HOUSE, log, (1, CY)), ["ann", "bob", "cy"])

    def test_a_changed_message_stays_read(self):
        log = log_of(SAID, (4, BOB, read((ANN, 1))), (5, ANN, ("change", MESSAGE, "b")))
        self.read_by(log, MESSAGE, "ann", "bob")

    def test_a_seen_of_what_does_not_count_yet(self):
        part = log_of((2, BOB, say("b", (1, ANN))), (3, CY, seen(2, BOB)), (4, ANN1, read((BOB, 1))))
        for name in EVERYBODY:
            with self.assertRaises(NoMessage):
                has_read(HOUSE, part, name, (2, BOB))
        log = joined_logs(part, log_of((1, ANN, say("a"))))
        self.read_by(log, (2, BOB), "ann", "bob", "cy")
        self.assertEqual(readers_of(HOUSE, log, (2, BOB)), EVERYBODY)
        self.read_by(log, (1, ANN), "ann")

    def test_a_message_beneath_one_taken_back(self):
        log = log_of((1, ANN, say("a")), (2, BOB, say("b", (1, ANN))), (3, ANN, ("back", (1, ANN))),
                     (4, CY, seen(2, BOB)))
        self.read_by(log, (2, BOB), "bob", "cy")

    def test_what_is_no_message(self):
        log = log_of((1, BOB, say("a", None, "yard")), (2, CY, say("b", (99, ANN))), (3, CY, say("c")),
                     (4, CY1, ("back", (3, CY))), (5, ANN, seen(1, BOB)), (6, ANN, seen(2, CY)), (7, ANN, seen(3, CY)),
                     (8, ANN, seen(20, CY)), (9, ANN, read((BOB, 1), (CY, 9))), (10, ANN, read((BOB, 9), room="yard")))
        for stamp in [(1, BOB), (2, CY), (3, CY), (4, CY1), (5, ANN), (9, ANN), (20, CY), (1, ANN), (3, CY1)]:
            for name in EVERYBODY:
                self.refused(has_read, log, name, stamp)
            self.refused(readers_of, log, stamp)

    def refused(self, function, *arguments):
        with self.assertRaises(NoMessage) as caught:
            function(HOUSE, *arguments)
        self.assertIs(type(caught.exception), NoMessage)

    def test_the_empty_log(self):
        self.refused(has_read, (), "ann", MESSAGE)
        self.refused(readers_of, (), MESSAGE)

    def test_of_wrong_things(self):
        for thing in NOTHINGS + [(True, ANN), (1, ("ann", False)), [1, ANN], (1, ["ann", 0]), "1ann0", ANN, (0, ANN)]:
            self.refused(has_read, log_of((1, ANN, say("a"))), "ann", thing)
            self.refused(readers_of, log_of((1, ANN, say("a"))), thing)

    def test_in_whatever_order_they_are_heard(self):
        parts = [log_of((1, ANN, say("a"))), log_of((2, BOB, say("b", (1, ANN))), (5, BOB, seen(1, ANN))),
                 log_of((3, CY, read((BOB, 1)))), log_of((4, CY1, seen(2, CY1)))]
        for order in itertools.permutations(parts):
            log = ()
            for part in order:
                log = joined_logs(log, part)
            self.assertEqual(readers_of(HOUSE, log, (1, ANN)), ["ann", "bob"])
            self.assertEqual(readers_of(HOUSE, log, (2, BOB)), ["bob", "cy"])

    def test_chance_logs(self):
        told = {True: 0, False: 0}
        for seed in range(100):
            log = chance_log(seed, 40)
            plain = Plain(log)
            for message in messages_of(HOUSE, log):
                for name in EVERYBODY:
                    self.assertIs(has_read(HOUSE, log, name, message[0]), plain.has_read(name, message[0]))
                    told[plain.has_read(name, message[0])] += message[3] != name
                self.assertEqual(readers_of(HOUSE, log, message[0]), plain.readers(message[0]))
        self.assertGreater(min(told.values()), 50)

    def test_what_is_read_stays_read_in_each_log_that_has_all_its_deeds(self):
        kept = 0
        for seed in range(60):
            log = chance_log(seed, 40)
            shown = [message[0] for message in messages_of(HOUSE, log)]
            for part in chance_parts(seed, log, 3):
                for stamp in [message[0] for message in messages_of(HOUSE, part) if message[0] in shown]:
                    before = readers_of(HOUSE, part, stamp)
                    self.assertLessEqual(set(before), set(readers_of(HOUSE, log, stamp)))
                    kept += len(before)
        self.assertGreater(kept, 100)

    def test_lists_are_the_asker_s_own(self):
        log = log_of(SAID)
        told = readers_of(HOUSE, log, MESSAGE)
        self.assertIsInstance(told, list)
        told.append("bob")
        self.assertEqual(readers_of(HOUSE, log, MESSAGE), ["ann"])


if __name__ == "__main__":
    unittest.main()
