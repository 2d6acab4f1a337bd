import itertools
import unittest

from chance_logs import Plain, chance_log
from samples import ANN, ANN1, BOB, CY, CY1, HOUSE, NOTHINGS, log_of, say
from talkmarks.counts import first_new, named_for, new_for, totals_for
from talkmarks.errors import NoRoom
from talkmarks.houses import rooms_of
from talkmarks.logs import is_log, joined_logs, vector_of
from talkmarks.messages import taken_back
from talkmarks.reads import has_read
from talkmarks.rows import rows_of

EVERYBODY = ["ann", "bob", "cy"]
ASKED_OF_A_ROOM = [new_for, named_for, first_new]

# The rows of the hall, from above: 1ann0 (beneath it 4cy0, beneath that 6ann1; then 5bob0), 2bob0, 3cy1.
TALK = log_of((1, ANN, say("hi")), (2, BOB, say("ho @ann")), (3, CY1, say("@ann @bob")), (4, CY, say("so", (1, ANN))),
              (5, BOB, say("@cy", (1, ANN))), (6, ANN1, say("@anna", (4, CY))), (7, CY, say("@ann", None, "yard")))


def change(message, saying):
    return ("change", message, saying)


class CountsTest(unittest.TestCase):
    def new(self, log, name, new, named=(), room="hall"):
        self.assertTrue(is_log(HOUSE, log))
        self.assertEqual(new_for(HOUSE, log, name, room), list(new))
        self.assertEqual(named_for(HOUSE, log, name, room), list(named))
        self.assertEqual(first_new(HOUSE, log, name, room), new[0] if new else None)

    def test_the_empty_log(self):
        for name in EVERYBODY:
            for room in rooms_of(HOUSE, name):
                self.new((), name, [], [], room)
        self.assertEqual(totals_for(HOUSE, (), "ann"), [("hall", 0, 0), ("yard", 0, 0)])
        self.assertEqual(totals_for(HOUSE, (), "bob"), [("hall", 0, 0)])

    def test_in_the_order_of_the_rows(self):
        self.new(TALK, "ann", [(4, CY), (5, BOB), (2, BOB), (3, CY1)], [(2, BOB), (3, CY1)])
        self.new(TALK, "bob", [(1, ANN), (4, CY), (6, ANN1), (3, CY1)], [(3, CY1)])
        self.new(TALK, "cy", [(1, ANN), (6, ANN1), (5, BOB), (2, BOB)], [(5, BOB)])
        self.new(TALK, "ann", [(7, CY)], [(7, CY)], "yard")
        self.new(TALK, "cy", [], [], "yard")

    def test_totals(self):
        self.assertEqual(totals_for(HOUSE, TALK, "ann"), [("hall", 4, 2), ("yard", 1, 1)])
        self.assertEqual(totals_for(HOUSE, TALK, "bob"), [("hall", 4, 1)])
        self.assertEqual(totals_for(HOUSE, TALK, "cy"), [("hall", 4, 1), ("yard", 0, 0)])

    def test_totals_of_a_member_of_no_room(self):
        house = ((("ann", 1), ("bob", 1)), (("hall", ("ann",)),))
        log = log_of((1, ANN, say("@bob")), (2, BOB, say("@ann")))
        self.assertEqual(totals_for(house, log, "bob"), [])
        self.assertEqual(totals_for(house, log, "ann"), [("hall", 0, 0)])
        with self.assertRaises(NoRoom):
            new_for(house, log, "bob", "hall")

    def test_what_was_read_is_not_new(self):
        log = joined_logs(TALK, log_of((8, ("cy", 2), ("seen", (2, BOB)))))
        self.new(log, "cy", [(1, ANN), (6, ANN1), (5, BOB)], [(5, BOB)])
        # A read of the yard makes nothing old in the hall.
        log = TALK + ((8, ANN, 1, ("read", "yard", vector_of(TALK))),)
        self.new(log, "ann", [(4, CY), (5, BOB), (2, BOB), (3, CY1)], [(2, BOB), (3, CY1)])
        self.new(log, "ann", [], [], "yard")
        log = TALK + ((8, ANN, 1, ("read", "hall", ((BOB, 1), (CY, 1)))),)
        self.new(log, "ann", [(5, BOB), (3, CY1)], [(3, CY1)])
        self.new(log, "ann", [(7, CY)], [(7, CY)], "yard")
        log = TALK + ((8, ANN, 1, ("read", "hall", ())),)
        self.assertEqual(totals_for(HOUSE, log, "ann"), totals_for(HOUSE, TALK, "ann"))
        log = TALK + ((8, ANN, 1, ("read", "hall", vector_of(TALK))),)
        self.new(log, "ann", [])
        self.assertEqual(totals_for(HOUSE, log, "ann"), [("hall", 0, 0), ("yard", 1, 1)])

    def test_heard_later_than_what_was_read(self):
        here = log_of((5, ANN, say("@bob")))
        here = joined_logs(here, log_of((6, BOB, ("read", "hall", vector_of(here)))))
        self.new(here, "bob", [])
        log = joined_logs(here, log_of((1, CY, say("@bob")), (2, CY, say("a"))))
        self.new(log, "bob", [(1, CY), (2, CY)], [(1, CY)])
        self.assertEqual(totals_for(HOUSE, log, "bob"), [("hall", 2, 1)])

    def test_named_in_what_was_read_or_written_by_themselves(self):
        log = log_of((1, ANN, say("@ann @bob")), (2, BOB, ("seen", (1, ANN))))
        self.new(log, "ann", [])
        self.new(log, "bob", [])
        self.new(log, "cy", [(1, ANN)])
        self.new(log[:1], "bob", [(1, ANN)], [(1, ANN)])

    def test_named_by_the_saying_it_has_now(self):
        log = log_of((1, ANN, say("@bob")), (2, ANN, change((1, ANN), "@cy")), (3, ANN1, change((1, ANN), "@bobby")),
                     (4, ANN, change((1, ANN), "@bob, @cy")))
        for k, bob, cy in [(1, True, False), (2, False, True), (3, False, False), (4, True, True)]:
            self.new(log[:k], "bob", [(1, ANN)], [(1, ANN)] if bob else [])
            self.new(log[:k], "cy", [(1, ANN)], [(1, ANN)] if cy else [])
            self.assertEqual(totals_for(HOUSE, log[:k], "bob"), [("hall", 1, int(bob))])

    def test_a_change_by_somebody_else_names_nobody(self):
        log = log_of((1, ANN, say("@bob")), (2, CY, change((1, ANN), "@cy")))
        self.new(log, "bob", [(1, ANN)], [(1, ANN)])
        self.new(log, "cy", [(1, ANN)])

    def test_named_twice_in_one_message_counts_once(self):
        log = log_of((1, ANN, say("@bob @bob")))
        self.new(log, "bob", [(1, ANN)], [(1, ANN)])
        self.assertEqual(totals_for(HOUSE, log, "bob"), [("hall", 1, 1)])

    def test_what_is_taken_back_is_not_counted(self):
        log = log_of((1, ANN, say("@bob")), (2, CY, say("@bob", (1, ANN))), (3, CY, say("a")))
        self.new(log, "bob", [(1, ANN), (2, CY), (3, CY)], [(1, ANN), (2, CY)])
        log = joined_logs(log, log_of((9, ANN1, ("back", (1, ANN)))))
        self.new(log, "bob", [(2, CY), (3, CY)], [(2, CY)])
        self.assertEqual(totals_for(HOUSE, log, "bob"), [("hall", 2, 1)])

    def test_what_does_not_count_is_not_new(self):
        log = log_of((1, BOB, say("@ann", None, "yard")), (2, BOB, say("@ann", (99, CY))),
                     (3, CY, say("@ann", (2, BOB))), (4, CY, say("@ann", (5, CY1))), (5, CY1, say("b")))
        self.new(log, "ann", [(5, CY1)])
        self.assertEqual(totals_for(HOUSE, log, "ann"), [("hall", 1, 0), ("yard", 0, 0)])

    def test_what_is_hushed_or_rung_is_new_still(self):
        log = log_of((1, ANN, say("@bob")), (2, BOB, ("hush", ("room", "hall"), True)), (3, BOB, ("rung", (1, ANN))),
                     (4, BOB, ("hush", ("person", "ann"), True)), (5, BOB, ("like", (1, ANN), "good", True)))
        self.new(log, "bob", [(1, ANN)], [(1, ANN)])

    def test_no_such_room(self):
        for room in ["", "halls", "hal", "ann", "HALL", " hall", "hall ", "nowhere"] + NOTHINGS:
            for function in ASKED_OF_A_ROOM:
                self.refused(function, "ann", room)

    def test_no_member(self):
        for function in ASKED_OF_A_ROOM:
            self.refused(function, "bob", "yard")
            self.refused(function, "bob", "yard", ())

    def refused(self, function, name, room, log=TALK):
        with self.assertRaises(NoRoom, msg=repr(room)[:80]) as caught:
            function(HOUSE, log, name, room)
        self.assertIs(type(caught.exception), NoRoom)

    def test_a_room_read_by_who_is_no_member_is_refused_still(self):
        log = TALK + ((8, BOB, 2, ("read", "yard", vector_of(TALK))), (9, BOB, 3, ("seen", (7, CY))))
        self.assertTrue(is_log(HOUSE, log))
        for function in ASKED_OF_A_ROOM:
            self.refused(function, "bob", "yard", log)
        self.assertEqual([total[0] for total in totals_for(HOUSE, log, "bob")], ["hall"])

    def test_a_deep_and_a_long_talk(self):
        rows = [(1, ANN, say("@bob"))] + [(k, ANN, say("@bob", (k - 1, ANN))) for k in range(2, 201)]
        self.assertEqual(totals_for(HOUSE, log_of(*rows), "bob"), [("hall", 200, 200)])
        rows = [(k, ANN, say("b")) for k in range(1, 201)]
        self.new(log_of(*rows), "bob", [(k, ANN) for k in range(1, 201)])

    def test_in_whatever_order_they_are_heard(self):
        parts = [log_of((1, ANN, say("@cy"))), log_of((2, BOB, say("@cy", (1, ANN))), (5, BOB, say("b"))),
                 log_of((3, CY, ("read", "hall", ((BOB, 1),)))), log_of((4, CY1, ("seen", (9, BOB))))]
        for order in itertools.permutations(parts):
            log = ()
            for part in order:
                log = joined_logs(log, part)
            self.new(log, "cy", [(1, ANN), (5, BOB)], [(1, ANN)])

    def test_chance_logs(self):
        told = [0, 0]
        for seed in range(100):
            log = chance_log(seed, 40)
            plain = Plain(log)
            for name in EVERYBODY:
                for room in rooms_of(HOUSE, name):
                    self.new(log, name, plain.new(name, room), plain.named(name, room), room)
                    told = [told[0] + len(plain.new(name, room)), told[1] + len(plain.named(name, room))]
                self.assertEqual(totals_for(HOUSE, log, name), plain.totals(name))
        self.assertGreater(told[0], 500)
        self.assertGreater(told[1], 100)

    def test_counts_are_those_of_a_walk_through_the_rows_shown(self):
        for seed in range(100, 140):
            log = chance_log(seed, 40)
            for name in EVERYBODY:
                totals = []
                for room in rooms_of(HOUSE, name):
                    shown = [row[1] for row in rows_of(HOUSE, log, room)]
                    new = [stamp for stamp in shown if not has_read(HOUSE, log, name, stamp)]
                    self.assertEqual(new_for(HOUSE, log, name, room), new)
                    self.assertEqual(set(new) & set(taken_back(HOUSE, log)), set())
                    named = named_for(HOUSE, log, name, room)
                    self.assertEqual([stamp for stamp in new if stamp in named], named)
                    self.assertEqual(first_new(HOUSE, log, name, room), new[0] if new else None)
                    totals.append((room, len(new), len(named)))
                self.assertEqual(totals_for(HOUSE, log, name), totals)

    def test_lists_are_the_asker_s_own(self):
        for ask in [lambda: new_for(HOUSE, TALK, "ann", "hall"), lambda: named_for(HOUSE, TALK, "ann", "hall"),
                    lambda: totals_for(HOUSE, TALK, "ann"), lambda: new_for(HOUSE, (), "ann", "hall")]:
            told = ask()
            self.assertIsInstance(told, list)
            kept = list(told)
            told.append(None)
            self.assertEqual(ask(), kept)
            self.assertTrue(all(isinstance(row, tuple) for row in kept))


if __name__ == "__main__":
    unittest.main()
