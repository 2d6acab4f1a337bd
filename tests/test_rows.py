import unittest

from chance_logs import Plain, chance_log
from samples import ANN, ANN1, BOB, CY, CY1, HOUSE, NOTHINGS, log_of, say
from talkmarks.errors import NoRoom
from talkmarks.logs import joined_logs
from talkmarks.messages import messages_of
from talkmarks.rows import rows_of

# In the hall: 1 holds 3 (which holds 6) and 5; 2 holds 4.
TREE = log_of((1, ANN, say("a")), (2, BOB, say("b")), (3, CY, say("c", (1, ANN))), (4, ANN, say("d", (2, BOB))),
              (5, BOB, say("e", (1, ANN))), (6, CY, say("f", (3, CY))))


class RowsTest(unittest.TestCase):
    def rows(self, log, *rows, room="hall"):
        self.assertEqual(rows_of(HOUSE, log, room), list(rows))

    def test_the_empty_log(self):
        self.rows(())
        self.rows((), room="yard")

    def test_one_say(self):
        log = log_of((1, ANN, say("a")))
        self.rows(log, (0, (1, ANN)))
        self.rows(log, room="yard")

    def test_each_ahead_of_all_that_stands_beneath_it(self):
        self.rows(TREE, (0, (1, ANN)), (1, (3, CY)), (2, (6, CY)), (1, (5, BOB)), (0, (2, BOB)), (1, (4, ANN)))

    def test_those_beneath_one_by_their_stamps(self):
        log = log_of((1, ANN, say("a")), (2, CY1, say("b", (1, ANN))), (2, CY, say("c", (1, ANN))),
                     (2, BOB, say("d", (1, ANN))), (10, ANN, say("e", (1, ANN))), (9, ANN1, say("f", (1, ANN))))
        self.rows(log, (0, (1, ANN)), (1, (2, BOB)), (1, (2, CY)), (1, (2, CY1)), (1, (9, ANN1)), (1, (10, ANN)))

    def test_those_beneath_none_by_their_stamps(self):
        log = log_of((2, BOB, say("a")), (1, CY, say("b")), (2, ANN1, say("c")), (1, ANN, say("d")))
        self.rows(log, (0, (1, ANN)), (0, (1, CY)), (0, (2, ANN1)), (0, (2, BOB)))

    def test_a_changed_one_keeps_its_place(self):
        log = TREE + ((9, ANN, 2, ("change", (1, ANN), "z")),)
        self.assertEqual(rows_of(HOUSE, log, "hall"), rows_of(HOUSE, TREE, "hall"))

    def test_what_stands_beneath_one_taken_back_keeps_place_and_depth(self):
        log = TREE + ((9, ANN, 2, ("back", (1, ANN))),)
        self.rows(log, (1, (3, CY)), (2, (6, CY)), (1, (5, BOB)), (0, (2, BOB)), (1, (4, ANN)))
        log = TREE + ((9, CY1, 0, ("back", (3, CY))),)
        self.rows(log, (0, (1, ANN)), (2, (6, CY)), (1, (5, BOB)), (0, (2, BOB)), (1, (4, ANN)))
        log = TREE + ((9, CY1, 0, ("back", (6, CY))), (9, CY1, 1, ("back", (3, CY))))
        self.rows(log, (0, (1, ANN)), (1, (5, BOB)), (0, (2, BOB)), (1, (4, ANN)))

    def test_all_taken_back(self):
        log = log_of((1, ANN, say("a")), (2, ANN, say("b", (1, ANN))), (3, ANN, ("back", (1, ANN))),
                     (4, ANN, ("back", (2, ANN))))
        self.rows(log)

    def test_said_beneath_one_taken_back_before(self):
        log = log_of((1, ANN, say("a")), (2, ANN, ("back", (1, ANN))), (3, BOB, say("b", (1, ANN))))
        self.rows(log, (1, (3, BOB)))

    def test_a_back_that_does_not_count(self):
        log = TREE + ((9, BOB, 2, ("back", (1, ANN))),)
        self.assertEqual(rows_of(HOUSE, log, "hall"), rows_of(HOUSE, TREE, "hall"))

    def test_rooms_by_themselves(self):
        log = log_of((1, ANN, say("a")), (2, ANN, say("b", None, "yard")), (3, CY, say("c", (2, ANN), "yard")),
                     (4, CY, say("d", (1, ANN))), (5, CY, say("e", (2, ANN))), (6, CY, say("f", (1, ANN), "yard")))
        self.rows(log, (0, (1, ANN)), (1, (4, CY)))
        self.rows(log, (0, (2, ANN)), (1, (3, CY)), room="yard")

    def test_what_does_not_count_has_no_row(self):
        log = log_of((1, BOB, say("a", None, "yard")), (2, ANN, say("b", (1, BOB), "yard")),
                     (3, ANN, say("c", (4, CY))), (4, CY, say("d")), (5, CY, say("e", (3, ANN))))
        self.rows(log, (0, (4, CY)))
        self.rows(log, room="yard")

    def test_an_elder_heard_later(self):
        without = tuple([deed for deed in TREE if deed[1] != ANN])
        self.rows(without, (0, (2, BOB)))
        self.assertEqual(rows_of(HOUSE, joined_logs(without, TREE), "hall"), rows_of(HOUSE, TREE, "hall"))

    def test_as_deep_and_as_wide_as_a_log_may_be(self):
        deep = log_of(*([(1, ANN, say("x"))] + [(k, ANN, say("x", (k - 1, ANN))) for k in range(2, 201)]))
        self.rows(deep, *[(k, (k + 1, ANN)) for k in range(200)])
        wide = log_of(*([(1, ANN, say("x"))] + [(k, ANN, say("x", (1, ANN))) for k in range(2, 201)]))
        self.rows(wide, (0, (1, ANN)), *[(1, (k, ANN)) for k in range(2, 201)])

    def test_no_such_room(self):
        for room in NOTHINGS + ["shed", "ann", "Hall", "halls", "hal", "hall ", ("hall",), ["hall"]]:
            for log in [(), TREE]:
                with self.assertRaises(NoRoom, msg=repr(room)[:80]):
                    rows_of(HOUSE, log, room)

    def test_chance_logs(self):
        hidden = 0
        for seed in range(150):
            log = chance_log(seed, 40)
            for room in ["hall", "yard"]:
                rows = rows_of(HOUSE, log, room)
                self.assertEqual(rows, Plain(log).rows(room))
                self.assertEqual(sorted([stamp for depth, stamp in rows]),
                                 [message[0] for message in messages_of(HOUSE, log) if message[1] == room])
                hidden += 1 if rows and rows[0][0] else 0
        self.assertGreater(hidden, 5)

    def test_lists_are_the_asker_s_own(self):
        told = rows_of(HOUSE, TREE, "hall")
        self.assertIsInstance(told, list)
        before = list(told)
        told.clear()
        self.assertEqual(rows_of(HOUSE, TREE, "hall"), before)
        self.assertIsNot(rows_of(HOUSE, (), "hall"), rows_of(HOUSE, (), "hall"))


if __name__ == "__main__":
    unittest.main()
