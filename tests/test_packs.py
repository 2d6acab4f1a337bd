import itertools
import random
import unittest

from chance_logs import chance_log, chance_parts
from samples import ANN, ANN1, BOB, CY, CY1, CY2, HOUSE, NOTHINGS, hush, log_of, say, under
from tellings import EVERYBODY, all_told, told, told_of_log
from talkmarks.errors import NoMessage, NoRoom
from talkmarks.houses import hands_of
from talkmarks.logs import is_log, joined_logs, vector_of
from talkmarks.packs import Pack

HALL = ("room", "hall")


def like(message, sort="good", on=True):
    return ("like", message, sort, on)


def change(message, saying):
    return ("change", message, saying)


def stamps_in(log):
    return [deed[:2] for deed in log] + [(10 ** 6, ANN), (1, BOB)]


def same(one, other):
    return one.table() == other.table() and one.vector() == other.vector()


class TableTest(unittest.TestCase):
    def table(self, log, *rows):
        self.assertTrue(is_log(HOUSE, log))
        self.assertEqual(Pack(HOUSE, log).table(), rows)

    def test_the_empty_log(self):
        self.table(())
        self.assertIsInstance(Pack(HOUSE, ()).table(), tuple)

    def test_one_deed_of_each_kind(self):
        self.table(log_of((3, BOB, ("back", (2, ANN)))), ("back", ((2, ANN), "bob"), None, None))
        self.table(log_of((3, BOB, change((2, ANN), "b"))), ("change", ((2, ANN), "bob"), (3, BOB), "b"))
        self.table(log_of((3, BOB, hush(HALL))), ("hush", ("bob", HALL), (3, BOB), True))
        self.table(log_of((3, BOB, hush(under(2, ANN), False))), ("hush", ("bob", under(2, ANN)), (3, BOB), False))
        self.table(log_of((3, BOB, like((2, ANN)))), ("like", ((2, ANN), "bob", "good"), (3, BOB), True))
        self.table(log_of((3, BOB, like((2, ANN), "x", False))), ("like", ((2, ANN), "bob", "x"), (3, BOB), False))
        self.table(log_of((3, BOB, ("read", "yard", ((ANN, 2), (CY, 1))))),
                   ("read", ("bob", "yard"), None, ((ANN, 2), (CY, 1))))
        self.table(log_of((3, BOB, ("rung", (2, ANN)))), ("rung", ((2, ANN), "bob"), None, None))
        self.table(log_of((3, BOB, say("a"))), ("say", (3, BOB), None, (0, "hall", None, "a")))
        self.table(log_of((3, BOB, say("a", (2, ANN), "yard"))), ("say", (3, BOB), None, (0, "yard", (2, ANN), "a")))
        self.table(log_of((3, BOB, ("seen", (2, ANN)))), ("seen", ((2, ANN), "bob"), None, None))

    def test_a_say_keeps_its_number(self):
        log = log_of((3, BOB, ("seen", (2, ANN))), (4, BOB, say("a")), (5, CY, say("b")), (7, BOB, say("c")))
        self.assertEqual([row[3][0] for row in Pack(HOUSE, log).table() if row[0] == "say"], [1, 0, 2])

    def test_rising_by_kind_and_key(self):
        log = log_of((1, CY, ("seen", (9, ANN))), (2, CY, ("seen", (1, ANN))), (3, CY, say("a")), (3, ANN, say("b")),
                     (4, BOB, ("rung", (9, ANN))), (5, ANN, ("rung", (9, ANN))), (6, ANN, ("read", "yard", ())),
                     (7, ANN, ("read", "hall", ())), (8, CY, like((3, CY), "b")), (9, CY, like((3, CY), "a")),
                     (10, CY, like((3, ANN), "c")), (11, CY, hush(under(10, ANN))), (12, CY, hush(under(9, CY))),
                     (13, CY, hush(HALL)), (14, CY, hush(("person", "cy"))), (15, BOB, hush(HALL)),
                     (16, CY, change((3, CY), "c")), (17, BOB, change((3, CY), "d")), (18, CY, ("back", (3, CY))),
                     (19, CY, ("back", (3, ANN))))
        self.table(
            log,
            ("back", ((3, ANN), "cy"), None, None), ("back", ((3, CY), "cy"), None, None),
            ("change", ((3, CY), "bob"), (17, BOB), "d"), ("change", ((3, CY), "cy"), (16, CY), "c"),
            ("hush", ("bob", HALL), (15, BOB), True), ("hush", ("cy", ("person", "cy")), (14, CY), True),
            ("hush", ("cy", HALL), (13, CY), True), ("hush", ("cy", under(9, CY)), (12, CY), True),
            ("hush", ("cy", under(10, ANN)), (11, CY), True),
            ("like", ((3, ANN), "cy", "c"), (10, CY), True), ("like", ((3, CY), "cy", "a"), (9, CY), True),
            ("like", ((3, CY), "cy", "b"), (8, CY), True),
            ("read", ("ann", "hall"), None, ()), ("read", ("ann", "yard"), None, ()),
            ("rung", ((9, ANN), "ann"), None, None), ("rung", ((9, ANN), "bob"), None, None),
            ("say", (3, ANN), None, (0, "hall", None, "b")), ("say", (3, CY), None, (2, "hall", None, "a")),
            ("seen", ((1, ANN), "cy"), None, None), ("seen", ((9, ANN), "cy"), None, None))

    def test_what_was_done_several_times_stands_there_once(self):
        for act in [("back", (1, ANN)), ("rung", (1, ANN)), ("seen", (1, ANN))]:
            log = log_of((2, CY, act), (3, CY1, act), (4, CY, act))
            self.table(log, (act[0], ((1, ANN), "cy"), None, None))

    def test_the_last_change_like_and_hush_of_a_key_by_stamps(self):
        for early, late in [(2, 3), (9, 10), (3, 3)]:
            # At the same time the hand decides; else the time, whichever hand is the greater.
            for hand, other in [(CY, CY2)] if early == late else [(CY, CY2), (CY2, CY), (CY1, CY1)]:
                log = log_of((early, hand, change((1, ANN), "a")), (late, other, change((1, ANN), "b")))
                self.table(log, ("change", ((1, ANN), "cy"), (late, other), "b"))
                for on in [True, False]:
                    log = log_of((early, hand, like((1, ANN), "x", not on)), (late, other, like((1, ANN), "x", on)))
                    self.table(log, ("like", ((1, ANN), "cy", "x"), (late, other), on))
                    log = log_of((early, hand, hush(HALL, not on)), (late, other, hush(HALL, on)))
                    self.table(log, ("hush", ("cy", HALL), (late, other), on))

    def test_keys_stay_apart(self):
        log = log_of((1, ANN, change((1, BOB), "a")), (2, BOB, change((1, BOB), "b")), (3, ANN, change((2, BOB), "c")),
                     (4, ANN, like((1, BOB), "x")), (5, ANN, like((1, BOB), "y")), (6, BOB, like((1, BOB), "x")),
                     (7, ANN, hush(HALL)), (8, BOB, hush(HALL)), (9, ANN, hush(("room", "yard"))),
                     (10, ANN, ("read", "hall", ())), (11, ANN, ("read", "yard", ())), (12, BOB, ("read", "hall", ())),
                     (13, ANN, ("rung", (1, BOB))), (14, ANN, ("seen", (1, BOB))), (15, ANN, ("back", (1, BOB))))
        self.assertEqual(len(Pack(HOUSE, log).table()), 15)

    def test_reads_of_one_room_with_unlike_vectors(self):
        log = log_of((1, CY, ("read", "hall", ((ANN, 2), (BOB, 5)))), (2, CY1, ("read", "hall", ((ANN, 3), (CY, 1)))),
                     (3, CY, ("read", "hall", ())), (4, CY2, ("read", "hall", ((BOB, 4),))),
                     (5, CY, ("read", "yard", ((ANN, 9),))), (6, BOB, ("read", "hall", ((ANN, 8),))))
        self.table(log[:1], ("read", ("cy", "hall"), None, ((ANN, 2), (BOB, 5))))
        self.table(log,
                   ("read", ("bob", "hall"), None, ((ANN, 8),)),
                   ("read", ("cy", "hall"), None, ((ANN, 3), (BOB, 5), (CY, 1))),
                   ("read", ("cy", "yard"), None, ((ANN, 9),)))

    def test_reads_with_the_empty_vector(self):
        self.table(log_of((1, CY, ("read", "hall", ())), (2, CY1, ("read", "hall", ()))),
                   ("read", ("cy", "hall"), None, ()))
        self.table(log_of((1, CY, ("read", "hall", ())), (2, CY1, ("read", "hall", ((BOB, 1),)))),
                   ("read", ("cy", "hall"), None, ((BOB, 1),)))

    def test_says_that_do_not_count_stand_there_too(self):
        log = log_of((2, ANN, say("a", (1, CY))), (3, BOB, say("b", None, "yard")), (4, ANN, say("c", (9, ANN))))
        self.table(log, ("say", (2, ANN), None, (0, "hall", (1, CY), "a")),
                   ("say", (3, BOB), None, (0, "yard", None, "b")),
                   ("say", (4, ANN), None, (1, "hall", (9, ANN), "c")))

    def test_chance_logs(self):
        for seed in range(60):
            log = chance_log(seed, 60)
            deeds = list(log)
            random.Random(seed).shuffle(deeds)
            self.table(log, *plain_table(deeds))

    def test_what_was_overruled_is_not_kept(self):
        log = log_of((1, ANN, say("a")), (2, ANN, change((1, ANN), "gone")), (3, ANN, change((1, ANN), "b")),
                     (4, ANN, like((1, ANN), "x", False)), (777, ANN, like((1, ANN), "x")), (778, ANN, hush(HALL)),
                     (779, ANN, hush(HALL, False)), (888, ANN, ("seen", (1, ANN))))
        kept = repr(vars(Pack(HOUSE, log)))
        for lost in ["gone", "(4, ('ann', 0))", "778", "888"]:
            self.assertNotIn(lost, kept)
        for held in ["'b'", "777", "779"]:
            self.assertIn(held, kept)


def plain_table(deeds):
    """The table once more: of each key all deeds are looked at, in whatever order they come."""
    by_key = {}
    for time, hand, number, act in deeds:
        name = hand[0]
        keys = {"say": (time, hand), "like": (act[1], name) + act[2:3], "hush": (name, act[1]), "read": (name, act[1])}
        by_key.setdefault((act[0], keys.get(act[0], (act[1], name))), []).append((time, hand, number, act))
    rows = []
    for kind, key in sorted(by_key):
        last = max(by_key[kind, key], key=lambda deed: deed[:2])
        stamp = last[:2] if kind in ["change", "like", "hush"] else None
        value = last[3][-1] if stamp else None
        if kind == "say":
            value = (last[2],) + last[3][1:]
        if kind == "read":
            pairs = [pair for deed in by_key[kind, key] for pair in deed[3][2]]
            value = tuple((hand, max(pair[1] for pair in pairs if pair[0] == hand)) for hand in hands_of(HOUSE)
                          if hand in [pair[0] for pair in pairs])
        rows.append((kind, key, stamp, value))
    return rows


class TellTest(unittest.TestCase):
    def tells_as_its_log(self, log):
        self.assertTrue(is_log(HOUSE, log))
        stamps = stamps_in(log)
        pack = Pack(HOUSE, log)
        self.assertEqual(pack.vector(), vector_of(log))
        self.assertEqual(all_told(pack, stamps), told_of_log(log, stamps))

    def test_the_empty_log(self):
        self.tells_as_its_log(())
        pack = Pack(HOUSE, ())
        self.assertEqual((pack.table(), pack.vector(), pack.messages(), pack.rows("hall")), ((), (), [], []))
        self.assertEqual(pack.new_to("bob", "hall"), [])
        self.assertEqual(pack.totals("bob"), [("hall", 0, 0)])
        self.assertEqual(pack.bells("bob"), [])

    def test_an_ordinary_log(self):
        log = log_of((1, ANN, say("hi @bob")), (2, BOB, say("ho", (1, ANN))), (3, CY, say("so", None, "yard")),
                     (4, ANN1, change((1, ANN), "hi all")), (5, BOB, like((1, ANN))), (6, CY, like((1, ANN))),
                     (7, CY1, ("read", "hall", ((ANN, 1),))))
        pack = Pack(HOUSE, log)
        self.assertEqual(pack.messages(), [((1, ANN), "hall", None, "ann", "hi all", True),
                                           ((2, BOB), "hall", (1, ANN), "bob", "ho", False),
                                           ((3, CY), "yard", None, "cy", "so", False)])
        self.assertEqual(pack.rows("hall"), [(0, (1, ANN)), (1, (2, BOB))])
        self.assertEqual(pack.likes((1, ANN)), [("good", ("bob", "cy"))])
        self.assertIs(pack.has_read("cy", (1, ANN)), True)
        self.assertIs(pack.has_read("cy", (2, BOB)), False)
        self.assertEqual(pack.new_to("cy", "hall"), [(2, BOB)])
        self.assertEqual(pack.totals("ann"), [("hall", 1, 0), ("yard", 1, 0)])
        self.assertEqual(pack.bells("ann"), [((2, BOB), "answered"), ((3, CY), "heard")])
        self.assertEqual(pack.vector(), ((ANN, 1), (ANN1, 1), (BOB, 2), (CY, 2), (CY1, 1)))
        self.tells_as_its_log(log)

    def test_the_last_by_stamps_not_by_hands_or_places(self):
        for rows in itertools.permutations([(10, CY), (9, CY1), (5, CY2)]):
            acts = [(lambda k: change((1, CY1), f"@ann {k}")), (lambda k: like((1, CY1), "x", k % 2 == 0)),
                    (lambda k: hush(HALL, k % 2 == 0)), (lambda k: hush(under(1, ANN), k % 2 == 1))]
            for act in acts:
                deeds = [(time, hand, act(k)) for k, (time, hand) in enumerate(rows)]
                self.tells_as_its_log(log_of((1, CY1, say("a")), (1, ANN, say("b")), *deeds))

    def test_changes_backs_and_likes_that_count_for_nothing(self):
        for act in [change((1, ANN), "x"), ("back", (1, ANN)), like((1, ANN)), change((7, ANN), "x"),
                    ("back", (7, ANN)), like((7, ANN)), ("seen", (7, ANN)), ("rung", (7, ANN))]:
            for hand in [ANN1, BOB, CY]:
                self.tells_as_its_log(log_of((1, ANN, say("a")), (2, CY, say("b", (1, ANN))), (3, hand, act)))
        pack = Pack(HOUSE, log_of((1, ANN, say("a")), (2, BOB, change((1, ANN), "b")), (3, BOB, ("back", (1, ANN)))))
        self.assertEqual(pack.messages(), [((1, ANN), "hall", None, "ann", "a", False)])

    def test_a_change_by_somebody_else_with_the_greater_stamp(self):
        log = log_of((1, ANN, say("a")), (2, ANN1, change((1, ANN), "b")), (3, BOB, change((1, ANN), "c")))
        self.assertEqual(Pack(HOUSE, log).messages(), [((1, ANN), "hall", None, "ann", "b", True)])

    def test_a_like_of_who_is_no_member(self):
        log = log_of((1, ANN, say("a", None, "yard")), (2, BOB, like((1, ANN))), (3, CY, like((1, ANN))))
        self.assertEqual(Pack(HOUSE, log).likes((1, ANN)), [("good", ("cy",))])

    def test_what_is_taken_back(self):
        log = log_of((1, ANN, say("a")), (2, BOB, say("@cy", (1, ANN))), (3, CY, say("c", (2, BOB))),
                     (4, CY, like((2, BOB))), (5, BOB, ("back", (2, BOB))), (6, BOB, change((2, BOB), "d")))
        self.tells_as_its_log(log)
        self.assertEqual(Pack(HOUSE, log).rows("hall"), [(0, (1, ANN)), (2, (3, CY))])
        self.assertEqual(Pack(HOUSE, log).bells("bob"), [((1, ANN), "heard"), ((3, CY), "answered")])

    def test_reads_are_told_by_the_greatest_counts(self):
        log = log_of((1, ANN, say("a")), (2, ANN, say("b")), (3, BOB, say("c")),
                     (4, CY, ("read", "hall", ((ANN, 2),))), (5, CY1, ("read", "hall", ((ANN, 1), (BOB, 1)))),
                     (6, CY, ("read", "hall", ())), (7, ANN, say("d")))
        self.tells_as_its_log(log)
        self.assertEqual(Pack(HOUSE, log).new_to("cy", "hall"), [(7, ANN)])

    def test_refusals(self):
        log = log_of((1, ANN, say("a")), (2, ANN, say("b")), (3, ANN, ("back", (2, ANN))), (4, BOB, say("c", (9, CY))))
        pack = Pack(HOUSE, log)
        for stamp in [(2, ANN), (3, ANN), (4, BOB), (9, CY), (1, ANN1), (1, BOB)]:
            self.assertEqual(told(pack.likes, stamp)[0], NoMessage)
            for name in EVERYBODY:
                self.assertEqual(told(pack.has_read, name, stamp)[0], NoMessage)
        self.assertEqual(told(pack.rows, "shed")[0], NoRoom)
        self.assertEqual(told(pack.new_to, "ann", "shed")[0], NoRoom)
        self.assertEqual(told(pack.new_to, "bob", "yard")[0], NoRoom)
        self.assertEqual(pack.rows("yard"), [])
        for thing in NOTHINGS:
            self.assertEqual(told(pack.likes, thing)[0], NoMessage)
            self.assertEqual(told(pack.rows, thing)[0], NoRoom)
        self.assertTrue(same(pack, Pack(HOUSE, log)))

    def test_two_hundred_deeds_one_beneath_the_other(self):
        log = log_of((1, ANN, say("a")), *[(k, ANN, say("b", (k - 1, ANN))) for k in range(2, 201)])
        pack = Pack(HOUSE, log)
        self.assertEqual(pack.rows("hall"), [(k - 1, (k, ANN)) for k in range(1, 201)])
        self.assertEqual(pack.bells("bob"), [((k, ANN), "heard") for k in range(1, 201)])
        self.assertTrue(same(pack.together(Pack(HOUSE, log[:77])), pack))

    def test_who_is_a_member_of_no_room(self):
        house = ((("ann", 1), ("bob", 1)), (("hall", ("ann",)),))
        self.assertEqual(Pack(house, log_of((1, ANN, say("@bob")))).totals("bob"), [])
        self.assertEqual(Pack(house, log_of((1, ANN, say("@bob")))).bells("bob"), [])

    def test_chance_logs(self):
        for seed in range(60):
            self.tells_as_its_log(chance_log(seed, 50))

    def test_lists_are_the_asker_s_own(self):
        pack = Pack(HOUSE, log_of((1, ANN, say("@bob")), (2, BOB, like((1, ANN)))))
        for ask in [pack.messages, lambda: pack.rows("hall"), lambda: pack.likes((1, ANN)), lambda: pack.bells("bob"),
                    lambda: pack.new_to("bob", "hall"), lambda: pack.totals("bob")]:
            first = ask()
            self.assertIsInstance(first, list)
            kept = list(first)
            first.append(None)
            self.assertEqual(ask(), kept)
        self.assertIsInstance(pack.table(), tuple)
        self.assertIsInstance(pack.vector(), tuple)


class TogetherTest(unittest.TestCase):
    def together(self, one, other):
        """The packs of both, put together either way, are the pack of the joined logs, and tell what that tells."""
        whole = joined_logs(one, other)
        stamps = stamps_in(whole)
        first, second = Pack(HOUSE, one), Pack(HOUSE, other)
        for pack in [first.together(second), second.together(first)]:
            self.assertIsInstance(pack, Pack)
            self.assertEqual(pack.table(), Pack(HOUSE, whole).table())
            self.assertEqual(pack.vector(), vector_of(whole))
            self.assertEqual(all_told(pack, stamps), told_of_log(whole, stamps))
        self.assertTrue(same(first, Pack(HOUSE, one)))
        self.assertTrue(same(second, Pack(HOUSE, other)))

    def test_with_itself_and_with_the_empty_one(self):
        for log in [(), log_of((1, ANN, say("a")))] + [chance_log(seed, 40) for seed in range(15)]:
            self.together(log, log)
            self.together(log, ())
        pack = Pack(HOUSE, chance_log(3, 40))
        self.assertTrue(same(pack.together(pack), pack))
        self.assertIsNot(pack.together(pack), pack)
        self.assertIsNot(pack.together(Pack(HOUSE, ())), pack)

    def test_the_greater_stamp_stays(self):
        for one, other in [((9, ANN), (10, ANN1)), ((10, ANN), (9, ANN1)), ((5, ANN), (5, ANN1))]:
            for acts in [[change((1, BOB), "a"), change((1, BOB), "b")], [hush(HALL), hush(HALL, False)],
                         [like((1, BOB)), like((1, BOB), "good", False)], [hush(HALL, False), hush(HALL)],
                         [like((1, BOB), "good", False), like((1, BOB))]]:
                self.together(log_of(one + (acts[0],)), log_of(other + (acts[1],)))

    def test_reads_and_vectors_take_each_hand_s_greater_count(self):
        one = log_of((1, CY, ("read", "hall", ((ANN, 3), (BOB, 1)))), (2, CY, say("a")), (3, BOB, say("b")))
        other = log_of((1, CY1, ("read", "hall", ((ANN1, 4), (BOB, 2)))), (3, BOB, say("b")), (4, BOB, say("c")))
        self.together(one, other)
        pack = Pack(HOUSE, one).together(Pack(HOUSE, other))
        self.assertEqual(pack.vector(), ((BOB, 2), (CY, 2), (CY1, 1)))
        self.assertEqual(pack.table()[0], ("read", ("cy", "hall"), None, ((ANN, 3), (ANN1, 4), (BOB, 2))))
        self.together(log_of((1, CY, ("read", "hall", ()))), log_of((1, CY1, ("read", "hall", ((BOB, 1),)))))
        self.together(log_of((1, CY, ("read", "hall", ()))), log_of((1, CY1, ("read", "hall", ()))))

    def test_says_that_count_only_together(self):
        one = log_of((1, ANN, say("a")), (4, ANN, ("back", (2, BOB))), (5, CY, like((3, CY1))))
        other = log_of((2, BOB, say("@cy", (1, ANN))), (6, BOB, change((2, BOB), "@ann")))
        third = log_of((3, CY1, say("c", (2, BOB))))
        self.assertEqual(Pack(HOUSE, other).messages(), [])
        self.together(one, other)
        self.together(other, third)
        self.together(one, third)
        packs = [Pack(HOUSE, log) for log in (one, other, third)]
        for first, second, last in itertools.permutations(packs):
            self.assertEqual(first.together(second).together(last).rows("hall"),
                             [(0, (1, ANN)), (1, (2, BOB)), (2, (3, CY1))])
            self.assertEqual(first.together(second).together(last).likes((3, CY1)), [("good", ("cy",))])

    def test_a_longer_log_of_the_same_hand(self):
        log = chance_log(5, 40)
        for k in range(len(log) + 1):
            self.together(log[:k], log)

    def test_chance_parts(self):
        for seed in range(25):
            one, other = chance_parts(seed, chance_log(seed, 50), 2)[:2]
            self.together(one, other)

    def test_three_in_each_order_and_however_bracketed(self):
        for seed in range(25):
            logs = chance_parts(seed, chance_log(seed, 50), 3)[:3]
            whole = Pack(HOUSE, joined_logs(joined_logs(logs[0], logs[1]), logs[2]))
            for one, two, three in itertools.permutations([Pack(HOUSE, log) for log in logs]):
                self.assertTrue(same(one.together(two).together(three), whole))
                self.assertTrue(same(one.together(two.together(three)), whole))
                self.assertTrue(same(one.together(two).together(one).together(three).together(two), whole))


if __name__ == "__main__":
    unittest.main()
