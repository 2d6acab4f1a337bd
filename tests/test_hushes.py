import itertools
import unittest

from chance_logs import Plain, chance_log
from samples import ANN, ANN1, BOB, CY, CY1, CY2, HOUSE, hush, log_of, say, under
from talkmarks.hushes import hushes_of
from talkmarks.logs import is_log, joined_logs

HALL = ("room", "hall")
YARD = ("room", "yard")


class HushesTest(unittest.TestCase):
    def hushes(self, log, name, *whats):
        self.assertTrue(is_log(HOUSE, log))
        self.assertEqual(hushes_of(log, name), list(whats))

    def test_the_empty_log(self):
        self.hushes((), "ann")

    def test_one_of_each(self):
        for what in [HALL, ("person", "bob"), under(3, CY)]:
            self.hushes(log_of((1, ANN, hush(what))), "ann", what)

    def test_other_acts_hush_nothing(self):
        log = log_of((1, ANN, say("a")), (2, ANN, ("like", (1, ANN), "good", True)), (3, ANN, ("rung", (1, ANN))),
                     (4, ANN, ("seen", (1, ANN))), (5, ANN, ("read", "hall", ())), (6, ANN, ("back", (1, ANN))))
        self.hushes(log, "ann")

    def test_rising_as_tuples(self):
        whats = [("person", "ann"), ("person", "bob"), ("person", "cy"), HALL, YARD, under(2, CY2), under(9, BOB),
                 under(10, ANN), under(10, ANN1)]
        for order in [whats, whats[::-1], whats[4:] + whats[:4], whats[::2] + whats[1::2]]:
            rows = [(k + 1, ANN, hush(what)) for k, what in enumerate(order)]
            self.hushes(log_of(*rows), "ann", *whats)

    def test_twice_and_then_no_longer(self):
        log = log_of((1, ANN, hush(HALL)), (2, ANN, hush(HALL)), (3, ANN, hush(HALL, False)), (4, ANN, hush(HALL)),
                     (5, ANN, hush(HALL, False)), (6, ANN, hush(HALL, False)))
        for k, whats in enumerate([[], [HALL], [HALL], [], [HALL], [], []]):
            self.hushes(log[:k], "ann", *whats)

    def test_off_alone(self):
        self.hushes(log_of((1, ANN, hush(HALL, False))), "ann")

    def test_the_last_by_stamps_among_several_hands_of_one_person(self):
        log = log_of((4, CY2, hush(HALL)), (4, CY, hush(HALL, False)), (9, CY1, hush(HALL, False)),
                     (10, CY, hush(HALL)))
        # 4cy0 stands ahead of 4cy2, and 9 ahead of 10, as numbers do.
        for k, whats in enumerate([[], [], [HALL], [], [HALL]]):
            self.hushes(log[:k], "cy", *whats)

    def test_each_person_by_themselves(self):
        log = log_of((1, ANN, hush(HALL)), (2, BOB, hush(HALL, False)), (3, CY, hush(YARD)), (4, ANN1, hush(YARD)),
                     (5, CY, hush(HALL)), (6, CY1, hush(YARD, False)))
        self.hushes(log, "ann", HALL, YARD)
        self.hushes(log, "bob")
        self.hushes(log, "cy", HALL)

    def test_each_what_by_itself(self):
        whats = [("person", "ann"), ("person", "bob"), HALL, YARD, under(1, ANN), under(1, ANN1), under(2, ANN)]
        for off in whats:
            rows = [(k + 1, BOB, hush(what)) for k, what in enumerate(whats)] + [(99, BOB, hush(off, False))]
            self.hushes(log_of(*rows), "bob", *[what for what in whats if what != off])

    def test_a_room_and_a_person_of_one_name(self):
        house = ((("ann", 1), ("bob", 1)), (("ann", ("ann", "bob")),))
        log = log_of((1, BOB, hush(("room", "ann"))), (2, BOB, hush(("person", "ann"))),
                     (3, BOB, hush(("room", "ann"), False)))
        self.assertTrue(is_log(house, log))
        self.assertEqual(hushes_of(log[:2], "bob"), [("person", "ann"), ("room", "ann")])
        self.assertEqual(hushes_of(log, "bob"), [("person", "ann")])

    def test_what_is_not_of_theirs_is_hushed_too(self):
        # A room of which bob is no member, himself, a message that nobody said, and one that was taken back.
        log = log_of((1, ANN, say("a")), (2, ANN, ("back", (1, ANN))), (3, BOB, hush(YARD)),
                     (4, BOB, hush(("person", "bob"))), (5, BOB, hush(under(77, CY))), (6, BOB, hush(under(1, ANN))))
        self.hushes(log, "bob", ("person", "bob"), YARD, under(1, ANN), under(77, CY))

    def test_in_whatever_order_they_are_heard(self):
        parts = [log_of((1, ANN, hush(HALL)), (4, ANN, hush(YARD))), log_of((3, ANN1, hush(HALL, False))),
                 log_of((2, BOB, hush(YARD, False)))]
        for order in itertools.permutations(parts):
            log = ()
            for part in order:
                log = joined_logs(log, part)
            self.hushes(log, "ann", YARD)

    def test_chance_logs(self):
        told = 0
        for seed in range(100):
            log = chance_log(seed, 40)
            for name in ["ann", "bob", "cy"]:
                self.assertEqual(hushes_of(log, name), Plain(log).hushes(name))
                told += len(hushes_of(log, name))
        self.assertGreater(told, 100)

    def test_lists_are_the_asker_s_own(self):
        log = log_of((1, ANN, hush(HALL)))
        for name in ["ann", "bob"]:
            told = hushes_of(log, name)
            self.assertIsInstance(told, list)
            told.append(YARD)
        self.hushes(log, "ann", HALL)
        self.hushes(log, "bob")
        self.assertIsInstance(hushes_of(log, "ann")[0], tuple)


if __name__ == "__main__":
    unittest.main()
