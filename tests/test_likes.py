import itertools
import unittest

from chance_logs import Plain, chance_log
from samples import ANN, ANN1, BOB, CY, CY1, CY2, HOUSE, NOTHINGS, log_of, say
from talkmarks.errors import NoMessage
from talkmarks.likes import likes_of
from talkmarks.logs import joined_logs
from talkmarks.messages import messages_of

MESSAGE = (1, ANN)
SAID = (1, ANN, say("a"))
SAID_IN_YARD = (1, ANN, say("a", None, "yard"))


def like(sort="good", on=True, message=MESSAGE):
    return ("like", message, sort, on)


class LikesTest(unittest.TestCase):
    def likes(self, log, *likes):
        self.assertEqual(likes_of(HOUSE, log, MESSAGE), list(likes))

    def test_nobody(self):
        self.likes(log_of(SAID))

    def test_one_and_several(self):
        self.likes(log_of(SAID, (2, BOB, like())), ("good", ("bob",)))
        self.likes(log_of(SAID, (2, CY, like()), (3, BOB, like()), (4, ANN, like())), ("good", ("ann", "bob", "cy")))

    def test_sorts_rising(self):
        log = log_of(SAID, (2, CY, like("so")), (3, BOB, like("good")), (4, ANN, like("bad")), (5, ANN, like("so")),
                     (6, ANN, like("abcdefgh")))
        self.likes(log, ("abcdefgh", ("ann",)), ("bad", ("ann",)), ("good", ("bob",)), ("so", ("ann", "cy")))

    def test_the_same_twice(self):
        self.likes(log_of(SAID, (2, BOB, like()), (3, BOB, like())), ("good", ("bob",)))

    def test_on_and_off_by_several_hands_of_one_person(self):
        log = log_of(SAID, (2, CY, like()), (3, CY1, like(on=False)), (4, CY2, like()), (4, CY, like(on=False)),
                     (9, CY1, like(on=False)), (10, CY, like()))
        # 4cy0 stands ahead of 4cy2, though told behind it.
        for k, likes in [(2, True), (3, False), (4, False), (5, True), (6, False), (7, True)]:
            self.likes(log[:k], *([("good", ("cy",))] if likes else []))

    def test_off_alone(self):
        self.likes(log_of(SAID, (2, BOB, like(on=False))))
        self.likes(log_of(SAID, (2, BOB, like(on=False)), (3, CY, like())), ("good", ("cy",)))

    def test_each_person_and_each_sort_by_itself(self):
        log = log_of(SAID, (2, BOB, like()), (3, CY, like()), (4, CY, like("bad")), (5, CY1, like(on=False)))
        self.likes(log, ("bad", ("cy",)), ("good", ("bob",)))

    def test_each_message_by_itself(self):
        log = log_of(SAID, (2, BOB, say("b")), (3, CY, like()), (4, CY, like("bad", True, (2, BOB))),
                     (5, CY, like("good", False, (2, BOB))), (6, BOB, like("good", True, (1, ANN1))))
        self.likes(log, ("good", ("cy",)))
        self.assertEqual(likes_of(HOUSE, log, (2, BOB)), [("bad", ("cy",))])

    def test_ahead_of_its_say(self):
        log = log_of((7, ANN, say("a")), (2, BOB, like("good", True, (7, ANN))), (3, CY, like("good", False, (7, ANN))),
                     (1, CY1, like("good", True, (7, ANN))))
        self.assertEqual(likes_of(HOUSE, log, (7, ANN)), [("good", ("bob",))])

    def test_only_members_of_the_room(self):
        log = log_of(SAID_IN_YARD, (2, BOB, like()), (3, BOB, like("bad")))
        self.likes(log)
        self.likes(joined_logs(log, log_of((4, CY, like()))), ("good", ("cy",)))

    def test_a_changed_message_keeps_its_likes(self):
        self.likes(log_of(SAID, (2, BOB, like()), (3, ANN, ("change", MESSAGE, "b"))), ("good", ("bob",)))

    def test_a_message_beneath_one_taken_back(self):
        log = log_of(SAID, (2, BOB, say("b", MESSAGE)), (3, CY, like("good", True, (2, BOB))),
                     (4, ANN, ("back", MESSAGE)))
        self.assertEqual(likes_of(HOUSE, log, (2, BOB)), [("good", ("cy",))])

    def test_what_is_no_message(self):
        log = log_of(SAID, (2, BOB, like()), (3, BOB, say("b", None, "yard")), (4, CY, like("good", True, (3, BOB))),
                     (5, CY, say("c", (99, ANN))), (6, ANN, like("good", True, (5, CY))), (7, CY, say("d")),
                     (8, ANN, like("good", True, (7, CY))), (9, CY1, ("back", (7, CY))),
                     (10, BOB, like("good", True, (20, CY))))
        for stamp in [(2, BOB), (3, BOB), (5, CY), (7, CY), (9, CY1), (20, CY), (1, BOB), (1, ANN1), (2, ANN)]:
            with self.assertRaises(NoMessage):
                likes_of(HOUSE, log, stamp)
        self.likes(log, ("good", ("bob",)))

    def test_the_empty_log(self):
        with self.assertRaises(NoMessage):
            likes_of(HOUSE, (), MESSAGE)

    def test_of_wrong_things(self):
        for thing in NOTHINGS + [(True, ANN), (1, ("ann", False)), [1, ANN], (1, ["ann", 0]), "1ann0", ANN, (0, ANN)]:
            with self.assertRaises(NoMessage, msg=repr(thing)[:80]):
                likes_of(HOUSE, log_of(SAID, (2, BOB, like())), thing)

    def test_in_whatever_order_they_are_heard(self):
        parts = [log_of(SAID), log_of((2, BOB, like()), (5, BOB, like(on=False))), log_of((3, CY, like())),
                 log_of((4, CY1, like(on=False)), (6, CY1, like("bad")))]
        for order in itertools.permutations(parts):
            log = ()
            for part in order:
                log = joined_logs(log, part)
            self.likes(log, ("bad", ("cy",)))

    def test_chance_logs(self):
        told = 0
        for seed in range(150):
            log = chance_log(seed, 40)
            for message in messages_of(HOUSE, log):
                likes = likes_of(HOUSE, log, message[0])
                self.assertEqual(likes, Plain(log).likes(message[0]))
                told += len(likes)
        self.assertGreater(told, 100)

    def test_lists_are_the_asker_s_own(self):
        log = log_of(SAID, (2, BOB, like()))
        told = likes_of(HOUSE, log, MESSAGE)
        self.assertIsInstance(told, list)
        self.assertIsInstance(told[0], tuple)
        self.assertIsInstance(told[0][1], tuple)
        told.clear()
        self.likes(log, ("good", ("bob",)))
        self.assertIsNot(likes_of(HOUSE, log[:1], MESSAGE), likes_of(HOUSE, log[:1], MESSAGE))


if __name__ == "__main__":
    unittest.main()
