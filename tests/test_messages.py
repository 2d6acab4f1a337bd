import unittest

from chance_logs import Plain, chance_log
from samples import ANN, ANN1, BOB, CY, CY1, HOUSE, NOTHINGS, log_of, say
from talkmarks.errors import NoMessage
from talkmarks.logs import joined_logs, lacking_in, parcel_of, vector_of
from talkmarks.messages import message_at, messages_of, taken_back

NO_MESSAGES = NOTHINGS + [(True, ANN), (1, ("ann", False)), [1, ANN], (1, ["ann", 0]), (1, "ann", 0), "1ann0", ANN,
                          (0, ANN), (2, ANN), (1, ANN1), (1, BOB), (1, ("ann", 2)), (1, ("dee", 0)), ((1, ANN),)]


class Told(unittest.TestCase):
    def messages(self, log, *told):
        self.assertEqual(messages_of(HOUSE, log), list(told))

    def stamps(self, log, *stamps):
        self.assertEqual([message[0] for message in messages_of(HOUSE, log)], list(stamps))

    def said(self, log, *sayings):
        self.assertEqual([message[4:] for message in messages_of(HOUSE, log)], list(sayings))

    def backs(self, log, *stamps):
        self.assertEqual(taken_back(HOUSE, log), list(stamps))


class SaysThatCountTest(Told):
    def test_the_empty_log(self):
        self.messages(())
        self.backs(())

    def test_one_say(self):
        self.messages(log_of((1, ANN, say("hi"))), ((1, ANN), "hall", None, "ann", "hi", False))

    def test_kinds(self):
        message = messages_of(HOUSE, log_of((1, ANN, say("hi"))))[0]
        self.assertIsInstance(message, tuple)
        self.assertIs(message[5], False)
        self.assertIs(messages_of(HOUSE, log_of((1, ANN, say("hi")), (2, ANN, ("change", (1, ANN), "ho"))))[0][5], True)

    def test_only_members_say(self):
        log = log_of((1, BOB, say("hi", None, "yard")), (2, CY1, say("ho", None, "yard")), (3, BOB, say("ha")))
        self.messages(log, ((2, CY1), "yard", None, "cy", "ho", False), ((3, BOB), "hall", None, "bob", "ha", False))

    def test_what_stands_beneath_what_does_not_count(self):
        log = log_of((1, BOB, say("hi", None, "yard")), (2, ANN, say("ho", (1, BOB), "yard")),
                     (3, CY, say("ha", (2, ANN), "yard")))
        self.stamps(log)

    def test_an_answer_of_no_member(self):
        log = log_of((1, ANN, say("hi", None, "yard")), (2, BOB, say("ho", (1, ANN), "yard")),
                     (3, ANN, say("ha", (2, BOB), "yard")))
        self.stamps(log, (1, ANN))

    def test_stamps_that_cross_between_hands(self):
        log = log_of((2, ANN, say("c", (1, BOB))), (1, BOB, say("b", (1, ANN1))), (1, ANN1, say("a")),
                     (2, BOB, say("d", (2, ANN))))
        self.messages(log, ((1, ANN1), "hall", None, "ann", "a", False),
                      ((1, BOB), "hall", (1, ANN1), "bob", "b", False),
                      ((2, ANN), "hall", (1, BOB), "ann", "c", False), ((2, BOB), "hall", (2, ANN), "bob", "d", False))

    def test_an_answer_ahead_of_its_elder(self):
        self.stamps(log_of((1, ANN, say("a", (2, BOB))), (2, BOB, say("b"))), (2, BOB))
        self.stamps(log_of((1, ANN, say("a", (1, BOB))), (1, BOB, say("b"))), (1, BOB))
        self.stamps(log_of((1, ANN, say("a", (1, ANN1))), (1, ANN1, say("b"))), (1, ANN1))
        self.stamps(log_of((1, BOB, say("a", (2, ANN))), (2, ANN, say("b")), (3, CY, say("c", (1, BOB)))), (2, ANN))

    def test_beneath_itself_and_one_another(self):
        self.stamps(log_of((1, ANN, say("a", (1, ANN)))))
        self.stamps(log_of((1, ANN, say("a", (2, BOB))), (2, BOB, say("b", (1, ANN)))))

    def test_beneath_one_of_another_room(self):
        log = log_of((1, ANN, say("a", None, "yard")), (2, ANN, say("b", (1, ANN))),
                     (3, CY, say("c", (1, ANN), "yard")), (4, CY, say("d", (2, ANN))),
                     (5, CY, say("e", (2, ANN), "yard")))
        self.stamps(log, (1, ANN), (3, CY))

    def test_beneath_what_is_no_say(self):
        log = log_of((1, ANN, say("a")), (2, ANN, ("seen", (1, ANN))), (3, BOB, say("b", (2, ANN))),
                     (4, BOB, ("change", (1, ANN), "x")), (5, CY, say("c", (4, BOB))), (6, CY, say("d", (99, CY))))
        self.stamps(log, (1, ANN))

    def test_beneath_what_is_taken_back(self):
        log = log_of((1, ANN, say("a")), (2, ANN, ("back", (1, ANN))), (3, BOB, say("b", (1, ANN))),
                     (4, CY, say("c", (3, BOB))))
        self.messages(log, ((3, BOB), "hall", (1, ANN), "bob", "b", False),
                      ((4, CY), "hall", (3, BOB), "cy", "c", False))

    def test_a_chain_of_two_hundred(self):
        rows = [(1, ANN, say("x"))] + [(k, ANN, say("x", (k - 1, ANN))) for k in range(2, 201)]
        self.stamps(log_of(*rows), *[(k, ANN) for k in range(1, 201)])
        self.stamps(log_of(*([(1, ANN, ("seen", (1, BOB)))] + rows[1:])))

    def test_other_deeds_are_no_messages(self):
        log = log_of((1, ANN, ("read", "hall", ((ANN, 1),))), (2, ANN, ("hush", ("room", "hall"), True)),
                     (3, ANN, ("rung", (1, ANN))), (4, ANN, ("like", (1, ANN), "good", True)),
                     (5, ANN, ("seen", (1, ANN))))
        self.messages(log)
        self.backs(log)


class ChangesTest(Told):
    def test_the_last_by_stamps(self):
        log = log_of((1, ANN, say("a")), (2, ANN, ("change", (1, ANN), "b")), (3, ANN, ("change", (1, ANN), "c")))
        self.said(log[:1], ("a", False))
        self.said(log[:2], ("b", True))
        self.said(log, ("c", True))

    def test_at_several_hands_of_the_writer(self):
        self.said(log_of((1, ANN, say("a")), (3, ANN, ("change", (1, ANN), "b")), (2, ANN1, ("change", (1, ANN), "c"))),
                  ("b", True))
        self.said(log_of((1, ANN, say("a")), (3, ANN, ("change", (1, ANN), "b")), (3, ANN1, ("change", (1, ANN), "c"))),
                  ("c", True))
        self.said(log_of((1, ANN, say("a")), (3, ANN1, ("change", (1, ANN), "a"))), ("a", True))

    def test_ahead_of_its_say(self):
        self.said(log_of((5, ANN, say("a")), (2, ANN1, ("change", (5, ANN), "b"))), ("b", True))
        self.said(log_of((5, ANN, say("a")), (2, ANN, ("change", (5, ANN), "b")), (3, ANN1, ("change", (5, ANN), "c"))),
                  ("c", True))
        self.said(log_of((5, ANN, say("a")), (2, ANN, ("change", (5, ANN), "b")), (6, ANN1, ("change", (5, ANN), "c"))),
                  ("c", True))

    def test_of_somebody_else(self):
        log = log_of((1, ANN, say("a")), (2, BOB, ("change", (1, ANN), "b")), (3, CY, ("change", (1, ANN), "c")))
        self.said(log, ("a", False))
        log = log_of((1, ANN, say("a")), (2, ANN1, ("change", (1, ANN), "b")), (3, CY, ("change", (1, ANN), "c")))
        self.said(log, ("b", True))

    def test_of_another_message(self):
        log = log_of((1, ANN, say("a")), (2, ANN, say("b")), (3, ANN, ("change", (2, ANN), "c")),
                     (4, ANN, ("change", (1, ANN1), "d")), (5, ANN, ("change", (3, ANN), "e")))
        self.said(log, ("a", False), ("c", True))

    def test_of_what_does_not_count(self):
        self.said(log_of((1, BOB, say("a", None, "yard")), (2, BOB, ("change", (1, BOB), "b"))))
        self.said(log_of((1, BOB, ("change", (9, BOB), "b"))))

    def test_the_rest_stays(self):
        log = log_of((1, ANN, say("a", None, "yard")), (2, CY, say("b", (1, ANN), "yard")),
                     (3, CY1, ("change", (2, CY), "c")))
        self.messages(log, ((1, ANN), "yard", None, "ann", "a", False), ((2, CY), "yard", (1, ANN), "cy", "c", True))


class BacksTest(Told):
    def test_at_any_hand_of_the_writer(self):
        for hand in [ANN, ANN1]:
            log = log_of((1, ANN, say("a")), (2, BOB, say("b")), (3, hand, ("back", (1, ANN))))
            self.stamps(log, (2, BOB))
            self.backs(log, (1, ANN))

    def test_of_somebody_else(self):
        log = log_of((1, ANN, say("a")), (2, BOB, ("back", (1, ANN))), (3, CY, ("back", (1, ANN))))
        self.stamps(log, (1, ANN))
        self.backs(log)

    def test_with_changes_behind_it(self):
        log = log_of((1, ANN, say("a")), (2, ANN, ("back", (1, ANN))), (3, ANN, ("change", (1, ANN), "b")),
                     (4, ANN1, ("change", (1, ANN), "c")))
        for k in range(2, 5):
            self.stamps(log[:k])
            self.backs(log[:k], (1, ANN))

    def test_ahead_of_its_say(self):
        log = log_of((7, ANN, say("a")), (2, ANN1, ("back", (7, ANN))))
        self.stamps(log)
        self.backs(log, (7, ANN))

    def test_of_what_does_not_count_or_is_none(self):
        for log in [log_of((1, BOB, say("a", None, "yard")), (2, BOB, ("back", (1, BOB)))),
                    log_of((1, ANN, say("a", (1, CY))), (2, ANN, ("back", (1, ANN)))),
                    log_of((2, ANN, ("back", (1, ANN)))), log_of((1, ANN, ("back", (1, ANN)))),
                    log_of((1, ANN, ("seen", (1, BOB))), (2, ANN, ("back", (1, ANN))))]:
            self.stamps(log)
            self.backs(log)

    def test_twice_and_rising(self):
        log = log_of((1, ANN, say("a")), (2, BOB, say("b")), (3, CY, say("c")), (4, CY, ("back", (3, CY))),
                     (5, BOB, ("back", (2, BOB))), (6, ANN, ("back", (1, ANN))), (7, CY1, ("back", (3, CY))))
        self.stamps(log)
        self.backs(log, (1, ANN), (2, BOB), (3, CY))

    def test_all_that_was_said_in_a_room(self):
        log = log_of((1, ANN, say("a")), (2, ANN, say("b", None, "yard")), (3, ANN, ("back", (2, ANN))))
        self.stamps(log, (1, ANN))


class MessageAtTest(unittest.TestCase):
    def refused(self, log, stamp):
        with self.assertRaises(NoMessage, msg=repr(stamp)[:80]):
            message_at(HOUSE, log, stamp)

    def test_each_message(self):
        log = log_of((1, ANN, say("a")), (2, BOB, say("b", (1, ANN))), (3, BOB, ("change", (2, BOB), "c")))
        self.assertEqual(message_at(HOUSE, log, (1, ANN)), ((1, ANN), "hall", None, "ann", "a", False))
        self.assertEqual(message_at(HOUSE, log, (2, BOB)), ((2, BOB), "hall", (1, ANN), "bob", "c", True))

    def test_what_is_no_message(self):
        log = log_of((1, ANN, say("a")), (2, BOB, say("b", None, "yard")), (3, CY, say("c", (9, CY))),
                     (4, CY, ("seen", (1, ANN))), (5, CY, say("d")), (6, CY, ("back", (5, CY))))
        for stamp in [(2, BOB), (3, CY), (4, CY), (5, CY), (6, CY), (9, CY), (1, BOB), (2, ANN), (10 ** 12, ANN)]:
            self.refused(log, stamp)

    def test_the_empty_log(self):
        self.refused((), (1, ANN))

    def test_of_wrong_things(self):
        for thing in NO_MESSAGES:
            self.refused(log_of((1, ANN, say("a"))), thing)
            self.refused((), thing)


class FittedInTest(Told):
    def test_an_answer_is_there_when_its_elder_is_heard(self):
        whole = log_of((1, ANN, say("a")), (2, BOB, say("b", (1, ANN))), (3, CY, say("c", (2, BOB))),
                       (4, BOB, ("change", (2, BOB), "d")))
        without = tuple([deed for deed in whole if deed[1] != ANN])
        self.stamps(without)
        heard = joined_logs(without, whole[:1])
        self.messages(heard, ((1, ANN), "hall", None, "ann", "a", False),
                      ((2, BOB), "hall", (1, ANN), "bob", "d", True),
                      ((3, CY), "hall", (2, BOB), "cy", "c", False))

    def test_what_was_taken_back_stays_so(self):
        for seed in range(40):
            log = chance_log(seed, 40)
            heard = ()
            while heard != log:
                before = taken_back(HOUSE, heard)
                heard = tuple(sorted(heard + parcel_of(log, vector_of(heard), 1)))
                self.assertLessEqual(set(before), set(taken_back(HOUSE, heard)))

    def test_chance_logs(self):
        told = 0
        for seed in range(150):
            log = chance_log(seed, 40)
            self.assertEqual(messages_of(HOUSE, log), Plain(log).messages())
            self.assertEqual(taken_back(HOUSE, log), Plain(log).backs())
            for message in messages_of(HOUSE, log):
                self.assertEqual(message_at(HOUSE, log, message[0]), message)
            for stamp in taken_back(HOUSE, log):
                with self.assertRaises(NoMessage):
                    message_at(HOUSE, log, stamp)
            told += len([message for message in messages_of(HOUSE, log) if message[2] and message[5]])
        self.assertGreater(told, 20)

    def test_what_one_hand_told_last_is_fitted_in(self):
        for seed in range(40):
            log = chance_log(seed, 40)
            for hand in [ANN, BOB, CY]:
                without = tuple([deed for deed in log if deed[1] != hand])
                self.assertEqual(messages_of(HOUSE, without), Plain(without).messages())
                only = lacking_in(log, vector_of(without))
                self.assertEqual(messages_of(HOUSE, joined_logs(without, only)), messages_of(HOUSE, log))


class OwnListsTest(unittest.TestCase):
    def test_lists_are_the_asker_s_own(self):
        log = log_of((1, ANN, say("a")), (2, ANN, say("b")), (3, ANN, ("back", (2, ANN))))
        for ask in [messages_of, taken_back]:
            told = ask(HOUSE, log)
            self.assertIsInstance(told, list)
            before = list(told)
            told.append("more")
            told.reverse()
            self.assertEqual(ask(HOUSE, log), before)
            self.assertIsNot(ask(HOUSE, log), ask(HOUSE, log))
        self.assertIsNot(messages_of(HOUSE, ()), messages_of(HOUSE, ()))


if __name__ == "__main__":
    unittest.main()
