import itertools
import unittest

from chance_logs import Plain, chance_log
from samples import ANN, ANN1, BOB, CY, CY1, CY2, HOUSE, hush, log_of, say, under
from talkmarks.bells import bells_for
from talkmarks.logs import is_log, joined_logs
from talkmarks.messages import taken_back

EVERYBODY = ["ann", "bob", "cy"]
HALL = ("room", "hall")
BY_ANN = ("person", "ann")


class BellsTest(unittest.TestCase):
    def bells(self, log, name, *bells):
        self.assertTrue(is_log(HOUSE, log))
        self.assertEqual(bells_for(HOUSE, log, name), list(bells))

    def test_the_empty_log(self):
        for name in EVERYBODY:
            self.bells((), name)

    def test_heard(self):
        log = log_of((1, ANN, say("a")))
        self.bells(log, "ann")
        self.bells(log, "bob", ((1, ANN), "heard"))
        self.bells(log, "cy", ((1, ANN), "heard"))

    def test_named(self):
        log = log_of((1, ANN, say("@bob, @anna")), (2, CY, say("@bobby")))
        self.bells(log, "bob", ((1, ANN), "named"), ((2, CY), "heard"))
        self.bells(log, "cy", ((1, ANN), "heard"))

    def test_answered(self):
        log = log_of((1, BOB, say("a")), (2, ANN, say("b", (1, BOB))), (3, CY, say("c", (2, ANN))))
        # What stands two beneath bob's is no answer to bob.
        self.bells(log, "bob", ((2, ANN), "answered"), ((3, CY), "heard"))
        self.bells(log, "ann", ((1, BOB), "heard"), ((3, CY), "answered"))
        self.bells(log, "cy", ((1, BOB), "heard"), ((2, ANN), "heard"))

    def test_answered_at_whatever_hand_it_was_said(self):
        log = log_of((1, CY2, say("a")), (2, ANN, say("b", (1, CY2))), (3, CY1, say("c", (2, ANN))))
        self.bells(log, "cy", ((2, ANN), "answered"))

    def test_the_first_reason_that_holds(self):
        self.bells(log_of((1, BOB, say("a")), (2, ANN, say("@bob", (1, BOB)))), "bob", ((2, ANN), "named"))
        for saying, above, quiet, why in [
                ("@bob", True, False, "named"), ("@bob", True, True, "named"), ("@bob", False, False, "named"),
                ("@bob", False, True, "named"), ("b", True, False, "answered"), ("b", True, True, "answered"),
                ("b", False, False, "heard"), ("b", False, True, None)]:
            rows = [(1, BOB, say("a")), (2, ANN, say(saying, (1, BOB) if above else None))]
            log = log_of(*(rows + ([(3, BOB, hush(HALL))] if quiet else [])))
            self.bells(log, "bob", *([((2, ANN), why)] if why else []))

    def test_rising_by_stamps_not_in_the_order_of_the_rows(self):
        log = log_of((1, ANN, say("a")), (2, CY, say("b")), (3, CY1, say("@bob", (1, ANN))), (10, ANN1, say("c")),
                     (10, ANN, say("d", (2, CY))))
        self.bells(log, "bob", ((1, ANN), "heard"), ((2, CY), "heard"), ((3, CY1), "named"), ((10, ANN), "heard"),
                   ((10, ANN1), "heard"))

    def test_both_rooms_of_a_member_and_none_of_another(self):
        log = log_of((1, CY, say("@ann", None, "yard")), (2, CY, say("a")), (3, CY1, say("@bob", (1, CY), "yard")),
                     (4, ANN, say("@bob", None, "yard")))
        self.bells(log, "ann", ((1, CY), "named"), ((2, CY), "heard"), ((3, CY1), "heard"))
        self.bells(log, "bob", ((2, CY), "heard"))
        self.bells(log, "cy", ((4, ANN), "heard"))

    def test_who_is_a_member_of_no_room(self):
        house = ((("ann", 1), ("bob", 1)), (("hall", ("ann",)),))
        self.assertEqual(bells_for(house, log_of((1, ANN, say("@bob"))), "bob"), [])

    def test_what_was_read(self):
        said = (1, ANN, say("@bob"))
        for act in [("seen", (1, ANN)), ("read", "hall", ((ANN, 1),))]:
            self.bells(log_of(said, (2, BOB, act)), "bob")
            self.bells(log_of(said, (2, BOB, act)), "cy", ((1, ANN), "heard"))
        for act in [("seen", (2, ANN)), ("read", "hall", ()), ("read", "yard", ((ANN, 1),)),
                    ("read", "hall", ((CY, 1),))]:
            self.bells(log_of(said, (2, BOB, act)), "bob", ((1, ANN), "named"))

    def test_what_was_read_at_another_hand(self):
        for act in [("seen", (1, ANN)), ("read", "hall", ((ANN, 1),))]:
            self.bells(log_of((1, ANN, say("@cy")), (2, CY2, act)), "cy")

    def test_heard_later_than_what_was_read(self):
        log = log_of((5, ANN, say("a")), (6, BOB, ("read", "hall", ((ANN, 1),))), (1, CY, say("b")))
        self.bells(log, "bob", ((1, CY), "heard"))

    def test_rung_at_whatever_hand_of_the_person(self):
        for saying in ["a", "@cy"]:
            for hand in [CY, CY1, CY2]:
                self.bells(log_of((1, ANN, say(saying)), (2, hand, ("rung", (1, ANN)))), "cy")
        log = log_of((1, CY, say("a")), (2, ANN, say("b", (1, CY))), (3, CY1, ("rung", (2, ANN))))
        self.bells(log, "cy")

    def test_rung_of_another_person_or_another_message(self):
        log = log_of((1, ANN, say("a")), (2, BOB, ("rung", (1, ANN))), (3, ANN, say("b")), (4, CY, ("rung", (3, ANN))),
                     (5, CY, ("rung", (1, ANN1))), (6, CY1, ("rung", (2, ANN))), (7, ANN, ("rung", (1, ANN))))
        self.bells(log, "cy", ((1, ANN), "heard"))
        self.bells(log, "bob", ((3, ANN), "heard"))

    def test_rung_and_then_changed_rings_no_more(self):
        log = log_of((1, ANN, say("a")), (2, BOB, ("rung", (1, ANN))), (3, ANN, ("change", (1, ANN), "@bob")))
        self.bells(log, "bob")

    def test_a_rung_ahead_of_its_say_by_stamps(self):
        self.bells(log_of((1, BOB, ("rung", (5, ANN))), (5, ANN, say("@bob"))), "bob")

    def test_a_hushed_writer(self):
        rows = [(1, BOB, say("a")), (2, ANN1, say("@bob", (1, BOB))), (3, CY, say("b"))]
        self.bells(log_of(*rows, (4, BOB, hush(BY_ANN))), "bob", ((3, CY), "heard"))
        self.bells(log_of(*rows, (4, BOB, hush(("person", "cy")))), "bob", ((2, ANN1), "named"))
        self.bells(log_of(*rows, (4, BOB, hush(("person", "bob")))), "bob", ((2, ANN1), "named"), ((3, CY), "heard"))
        # What stands beneath a hushed writer's message, or names them, isn't theirs.
        log = log_of((1, ANN, say("a")), (2, CY, say("@ann", (1, ANN))), (3, BOB, hush(BY_ANN)))
        self.bells(log, "bob", ((2, CY), "heard"))

    def test_a_hushed_room(self):
        log = log_of((1, CY, say("a")), (2, CY, say("b", None, "yard")), (3, ANN, say("c")), (4, CY, say("@ann")),
                     (5, CY, say("d", (3, ANN))), (6, ANN, hush(HALL)))
        self.bells(log, "ann", ((2, CY), "heard"), ((4, CY), "named"), ((5, CY), "answered"))
        self.bells(log[:5], "ann", ((1, CY), "heard"), ((2, CY), "heard"), ((4, CY), "named"), ((5, CY), "answered"))

    def test_a_hushed_message_and_all_beneath_it(self):
        log = log_of((1, ANN, say("a")), (2, CY, say("b", (1, ANN))), (3, ANN, say("c", (2, CY))),
                     (4, CY, say("d", (3, ANN))), (5, ANN, say("e")), (6, CY, say("f", (1, ANN))))
        stamps = [(1, ANN), (2, CY), (3, ANN), (4, CY), (5, ANN), (6, CY)]
        for what, quiet in [(under(1, ANN), [1, 2, 3, 4, 6]), (under(2, CY), [2, 3, 4]), (under(3, ANN), [3, 4]),
                            (under(4, CY), [4]), (under(5, ANN), [5]), (under(6, CY), [6]), (under(1, ANN1), []),
                            (under(7, ANN), [])]:
            more = joined_logs(log, log_of((9, BOB, hush(what))))
            self.bells(more, "bob", *[(stamp, "heard") for stamp in stamps if stamp[0] not in quiet])
            self.bells(more, "ann", *[((k, CY), "answered") for k in (2, 4, 6)])

    def test_named_or_answered_beneath_what_is_hushed(self):
        rows = [(1, ANN, say("a")), (2, BOB, say("b", (1, ANN))), (3, CY, say("c", (2, BOB))),
                (4, CY, say("d", (3, CY))), (5, CY, say("@bob", (4, CY))), (6, CY, say("@bob"))]
        louder = [((3, CY), "answered"), ((5, CY), "named"), ((6, CY), "named")]
        for what in [HALL, under(1, ANN)]:
            self.bells(log_of(*rows, (9, BOB, hush(what))), "bob", *louder)
        for what in [under(2, BOB), under(3, CY), under(4, CY)]:
            self.bells(log_of(*rows, (9, BOB, hush(what))), "bob", ((1, ANN), "heard"), *louder)
        for what in [under(5, CY), under(6, CY)]:
            self.bells(log_of(*rows, (9, BOB, hush(what))), "bob", ((1, ANN), "heard"), louder[0], ((4, CY), "heard"),
                       *louder[1:])

    def test_several_hushes_above_one_another(self):
        rows = [(1, ANN, say("a")), (2, CY, say("b", (1, ANN))), (3, ANN, say("c", (2, CY)))]
        on = [(11, BOB, hush(under(1, ANN))), (12, BOB, hush(under(2, CY))), (13, BOB, hush(under(3, ANN)))]
        off = [(21, BOB, hush(under(1, ANN), False)), (22, BOB, hush(under(2, CY), False)),
               (23, BOB, hush(under(3, ANN), False))]
        heard = [((1, ANN), "heard"), ((2, CY), "heard"), ((3, ANN), "heard")]
        self.bells(log_of(*rows, *on), "bob")
        self.bells(log_of(*rows, *on, off[0]), "bob", *heard[:1])
        self.bells(log_of(*rows, *on, off[1]), "bob")
        self.bells(log_of(*rows, *on, off[2]), "bob")
        self.bells(log_of(*rows, *on, off[0], off[1]), "bob", *heard[:2])
        self.bells(log_of(*rows, *on, off[1], off[2]), "bob")
        self.bells(log_of(*rows, *on, *off), "bob", *heard)

    def test_hushed_twice_and_then_no_longer(self):
        for what in [HALL, BY_ANN, under(1, ANN)]:
            log = log_of((1, ANN, say("a")), (2, BOB, hush(what)), (3, BOB, hush(what)), (4, BOB, hush(what, False)))
            for k, rings in [(1, True), (2, False), (3, False), (4, True)]:
                self.bells(log[:k], "bob", *([((1, ANN), "heard")] if rings else []))

    def test_hushes_of_another_person_or_another_thing(self):
        rows = [(1, ANN, say("a")), (2, CY, hush(HALL)), (3, CY, hush(BY_ANN)), (4, CY, hush(under(1, ANN))),
                (5, BOB, hush(("room", "yard"))), (6, BOB, hush(("person", "cy"))), (7, BOB, hush(under(1, ANN1)))]
        self.bells(log_of(*rows), "bob", ((1, ANN), "heard"))
        self.bells(log_of(*rows), "cy")

    def test_a_hush_under_what_was_taken_back_still_holds_beneath_it(self):
        log = log_of((1, ANN, say("a")), (2, CY, say("b", (1, ANN))), (3, CY, say("c")), (4, ANN, ("back", (1, ANN))),
                     (5, BOB, hush(under(1, ANN))))
        self.bells(log, "bob", ((3, CY), "heard"))

    def test_an_answer_to_what_was_taken_back(self):
        log = log_of((1, BOB, say("a")), (2, ANN, say("b", (1, BOB))), (3, BOB, ("back", (1, BOB))),
                     (4, BOB, hush(HALL)))
        for k in (2, 3, 4):
            self.bells(log[:k], "bob", ((2, ANN), "answered"))

    def test_what_is_taken_back_rings_no_bell(self):
        log = log_of((1, BOB, say("a")), (2, ANN, say("@bob", (1, BOB))), (3, CY, say("c", (2, ANN))),
                     (4, ANN1, ("back", (2, ANN))))
        self.bells(log, "bob", ((3, CY), "heard"))
        self.bells(log, "ann", ((1, BOB), "heard"), ((3, CY), "answered"))

    def test_named_by_the_saying_it_has_now(self):
        log = log_of((1, ANN, say("@bob")), (2, ANN, ("change", (1, ANN), "b")),
                     (3, ANN1, ("change", (1, ANN), "@bob")), (4, CY, ("change", (1, ANN), "c")))
        for k, why in [(1, "named"), (2, "heard"), (3, "named"), (4, "named")]:
            self.bells(log[:k], "bob", ((1, ANN), why))
        log = log_of((1, ANN, say("@bob")), (2, ANN, ("change", (1, ANN), "b")), (3, BOB, hush(HALL)))
        self.bells(log, "bob")

    def test_what_does_not_count(self):
        log = log_of((2, ANN, say("@bob", (1, CY))), (3, CY1, say("@bob", (2, ANN))), (4, BOB, say("a", None, "yard")),
                     (5, ANN, say("b", (4, BOB), "yard")))
        self.bells(log, "bob")
        self.bells(log, "cy")
        more = joined_logs(log, log_of((1, CY, say("c"))))
        self.bells(more, "bob", ((1, CY), "heard"), ((2, ANN), "named"), ((3, CY1), "named"))
        self.bells(more, "cy", ((2, ANN), "answered"))

    def test_a_writer_s_own_message(self):
        log = log_of((1, CY, say("@cy")), (2, CY1, say("@cy", (1, CY))))
        self.bells(log, "cy")

    def test_a_deep_talk_hushed_at_its_top(self):
        rows = [(1, ANN, say("a"))] + [(k, ANN, say("b", (k - 1, ANN))) for k in range(2, 200)]
        heard = [((k, ANN), "heard") for k in range(1, 200)]
        self.bells(log_of(*rows), "bob", *heard)
        self.bells(log_of(*rows, (200, BOB, hush(under(1, ANN)))), "bob")
        self.bells(log_of(*rows, (200, BOB, hush(under(3, ANN)))), "bob", *heard[:2])

    def test_in_whatever_order_they_are_heard(self):
        parts = [log_of((1, ANN, say("a")), (6, ANN, say("b"))), log_of((2, BOB, say("@cy", (1, ANN)))),
                 log_of((3, CY, hush(under(1, ANN)))), log_of((4, CY1, ("rung", (6, ANN))))]
        for order in itertools.permutations(parts):
            log = ()
            for part in order:
                log = joined_logs(log, part)
            self.bells(log, "cy", ((2, BOB), "named"))
            self.bells(log, "ann", ((2, BOB), "answered"))

    def test_chance_logs(self):
        told = {}
        for seed in range(120):
            log = chance_log(seed, 40)
            plain = Plain(log)
            for name in EVERYBODY:
                bells = bells_for(HOUSE, log, name)
                self.assertEqual(bells, plain.bells(name))
                self.assertEqual({bell[0] for bell in bells} & set(taken_back(HOUSE, log)), set())
                for stamp, why in bells:
                    reasons = tuple(plain.reasons(name, stamp))
                    told[reasons] = told.get(reasons, 0) + 1
        # All seven of the ways in which one or more of the three can hold have been met.
        self.assertEqual(len(told), 7, told)

    def test_lists_are_the_asker_s_own(self):
        log = log_of((1, ANN, say("a")))
        for name in ["ann", "bob"]:
            told = bells_for(HOUSE, log, name)
            self.assertIsInstance(told, list)
            told.append(None)
        self.bells(log, "ann")
        self.bells(log, "bob", ((1, ANN), "heard"))
        self.assertIsInstance(bells_for(HOUSE, log, "bob")[0], tuple)


if __name__ == "__main__":
    unittest.main()
