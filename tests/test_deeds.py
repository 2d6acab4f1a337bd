import copy
import unittest

from samples import HOUSE, NO_WHOLES, NOTHINGS
from talkmarks.deeds import is_act, is_deed, is_stamp, is_vector, is_within, stamp_of
from talkmarks.houses import hands_of

ANN = ("ann", 0)
BOB = ("bob", 0)
STAMP = (3, ANN)
VECTOR = ((ANN, 2), (BOB, 1))
LONG = "x" * 60

NO_ROOMS = NOTHINGS + ["shed", "ann", "Hall", "hall ", ("hall",), ["hall"]]
NO_PERSONS = NOTHINGS + ["dee", "hall", "Ann", "ann0", ANN]
NO_STAMPS = NOTHINGS + [
    (0, ANN), (-1, ANN), (True, ANN), (False, ANN), (None, ANN), ("1", ANN), ((1,), ANN), ([1], ANN),
    (1, ("ann", 2)), (1, ("ann", -1)), (1, ("dee", 0)), (1, ("ann", True)), (1, ("ann", False)), (1, ["ann", 0]),
    (1, "ann0"), (1, "ann", 0), (1,), (ANN,), (1, ANN, 0), (ANN, 1), [1, ANN], (1, (ANN,)), "1ann0", ANN,
]
NO_VECTORS = [thing for thing in NOTHINGS if thing != ()] + [
    [], [(ANN, 1)], ((ANN, 0),), ((ANN, -1),), ((ANN, True),), ((ANN, False),), ((ANN, None),), ((ANN, "1"),),
    ((ANN, (1,)),), ([ANN, 1],), ((["ann", 0], 1),), ((("ann", 2), 1),), ((("dee", 0), 1),), ((("ann", True), 1),),
    ((("ann", False), 1),), ((ANN,),), ((ANN, 1, 1),), (ANN, 1), ((1, ANN),), (ANN,), (("ann", 0, 1),),
    ((ANN, 1), (ANN, 1)), ((ANN, 1), (ANN, 2)), ((ANN, 2), (ANN, 1)), ((BOB, 1), (ANN, 1)), ((BOB, 1), (ANN, 2)),
    ((("ann", 1), 1), (ANN, 1)), ((ANN, 1), (("cy", 0), 1), (BOB, 1)), ((ANN, 1), None), ((ANN, 1), (BOB, 0)),
    ((ANN, 1), ()), (((ANN, 1),),), ((ANN, 1), (BOB, 1), (BOB, 1)),
]
NO_SAYINGS = NOTHINGS + ["x" * 61, "a\nb", "\x7f", "\x1f", ("hi",), ["hi"]]
NO_SORTS = NOTHINGS + ["Good", "abcdefghi", "so good", "good ", "go1d", ("good",), ["good"]]
NO_TRUTHS = [thing for thing in NOTHINGS if not isinstance(thing, bool)] + ["True", (True,), [True], 2]
NO_WHATS = NOTHINGS + [
    "room", "hall", ("room",), ("room", "shed"), ("room", "ann"), ("room", None), ("room", ["hall"]),
    ("room", ("hall",)), ("room", STAMP), ("room", "hall", True), ["room", "hall"], ("person", "dee"),
    ("person", "hall"), ("person", ANN), ("person", None), ("person",), ("person", "ann", 0), ["person", "ann"],
    ("under", None), ("under", (0, ANN)), ("under", (True, ANN)), ("under", (1, ("dee", 0))), ("under", "hall"),
    ("under", [3, ANN]), ("under",), ("under", STAMP, 0), ["under", STAMP], ("message", STAMP), ("Room", "hall"),
    ("", "hall"), (None, "hall"), (["room"], "hall"), ("hall", "room"), ("name", "ann"),
]
NO_UNDERS = [thing for thing in NO_STAMPS if thing is not None]

# Each act, and for each of its parts what can't stand there.
ACTS = [
    (("say", "hall", None, "hi"), [NO_ROOMS, NO_UNDERS, NO_SAYINGS]),
    (("say", "yard", STAMP, LONG), [NO_ROOMS, NO_UNDERS, NO_SAYINGS]),
    (("change", STAMP, "ho"), [NO_STAMPS, NO_SAYINGS]),
    (("back", STAMP), [NO_STAMPS]),
    (("like", STAMP, "good", True), [NO_STAMPS, NO_SORTS, NO_TRUTHS]),
    (("like", STAMP, "a", False), [NO_STAMPS, NO_SORTS, NO_TRUTHS]),
    (("read", "hall", VECTOR), [NO_ROOMS, NO_VECTORS]),
    (("read", "yard", ()), [NO_ROOMS, NO_VECTORS]),
    (("seen", STAMP), [NO_STAMPS]),
    (("hush", ("room", "hall"), True), [NO_WHATS, NO_TRUTHS]),
    (("hush", ("person", "bob"), False), [NO_WHATS, NO_TRUTHS]),
    (("hush", ("under", STAMP), True), [NO_WHATS, NO_TRUTHS]),
    (("rung", STAMP), [NO_STAMPS]),
]


def put(things, place, thing):
    return things[:place] + (thing,) + things[place + 1:]


class Asking(unittest.TestCase):
    def yes(self, ask, thing):
        self.assertIs(ask(HOUSE, thing), True, repr(thing)[:200])

    def no(self, ask, thing):
        self.assertIs(ask(HOUSE, thing), False, repr(thing)[:200])


class IsStampTest(Asking):
    def test_each_hand_from_one_on(self):
        for hand in hands_of(HOUSE):
            for time in [1, 2, 200, 10 ** 12]:
                self.yes(is_stamp, (time, hand))

    def test_no_stamps(self):
        for thing in NO_STAMPS:
            self.no(is_stamp, thing)

    def test_of_anything_in_each_part(self):
        for thing in NO_WHOLES:
            self.no(is_stamp, (thing, ANN))
        for thing in NOTHINGS:
            self.no(is_stamp, (1, thing))


class IsVectorTest(Asking):
    def test_vectors(self):
        self.yes(is_vector, ())
        self.yes(is_vector, VECTOR)
        self.yes(is_vector, ((ANN, 1),))
        self.yes(is_vector, ((ANN, 200), (("ann", 1), 1), (("cy", 2), 7)))
        self.yes(is_vector, tuple([(hand, 1) for hand in hands_of(HOUSE)]))
        self.yes(is_vector, tuple([(hand, 9 - k) for k, hand in enumerate(hands_of(HOUSE))]))

    def test_no_vectors(self):
        for thing in NO_VECTORS:
            self.no(is_vector, thing)

    def test_of_anything_in_each_part(self):
        for thing in NOTHINGS:
            self.no(is_vector, (thing,))
            self.no(is_vector, ((thing, 1),))
            self.no(is_vector, ((ANN, 1), (thing, 1)))
        for thing in NO_WHOLES:
            self.no(is_vector, ((ANN, thing),))


class IsActTest(Asking):
    def test_acts(self):
        for act, wrong in ACTS:
            self.yes(is_act, act)

    def test_each_part_wrong(self):
        for act, wrong in ACTS:
            for k, things in enumerate(wrong):
                for thing in things:
                    self.no(is_act, put(act, k + 1, thing))

    def test_parts_left_out_or_put_in(self):
        for act, wrong in ACTS:
            for k in range(len(act)):
                self.no(is_act, act[:k] + act[k + 1:])
            for k in range(len(act) + 1):
                for more in [None, True, "hall", STAMP]:
                    self.no(is_act, act[:k] + (more,) + act[k:])

    def test_a_list_in_the_place_of_the_tuple(self):
        for act, wrong in ACTS:
            self.no(is_act, list(act))
            self.no(is_act, (act,))
            self.no(is_act, [act])

    def test_other_words_ahead(self):
        for act, wrong in ACTS:
            for word in NOTHINGS + ["Say", "says", "sa", "unlike", "unhush", "see", [act[0]], (act[0],), act[0] + " "]:
                self.no(is_act, put(act, 0, word))

    def test_a_kind_with_the_parts_of_another(self):
        forms = {}
        for act, wrong in ACTS:
            forms.setdefault(act[0], [id(things) for things in wrong])
        for act, wrong in ACTS:
            for word, form in forms.items():
                if form != [id(things) for things in wrong]:
                    self.no(is_act, (word,) + act[1:])

    def test_of_anything(self):
        for thing in NOTHINGS:
            self.no(is_act, thing)

    def test_messages_of_each_hand_need_not_be_heard(self):
        for hand in hands_of(HOUSE):
            for act in [("back", (1, hand)), ("seen", (99, hand)), ("rung", (10 ** 12, hand)),
                        ("say", "hall", (7, hand), "x"), ("hush", ("under", (8, hand)), False)]:
                self.yes(is_act, act)

    def test_rooms_and_persons_of_this_house(self):
        small = ((("ann", 1),), (("shed", ("ann",)),))
        self.assertIs(is_act(small, ("say", "shed", None, "hi")), True)
        self.assertIs(is_act(small, ("say", "hall", None, "hi")), False)
        self.assertIs(is_act(small, ("hush", ("person", "ann"), True)), True)
        self.assertIs(is_act(small, ("hush", ("person", "bob"), True)), False)
        self.assertIs(is_act(small, ("back", (1, ("ann", 1)))), False)

    def test_sayings_and_sorts_at_their_bounds(self):
        for saying in ["x", " ", "~", LONG, " " * 60]:
            self.yes(is_act, ("say", "hall", None, saying))
            self.yes(is_act, ("change", STAMP, saying))
        for sort in ["a", "z", "abcdefgh"]:
            self.yes(is_act, ("like", STAMP, sort, True))

    def test_whats_of_each_room_and_person(self):
        for room, members in HOUSE[1]:
            self.yes(is_act, ("hush", ("room", room), True))
            self.yes(is_act, ("read", room, ()))
        for name, many in HOUSE[0]:
            self.yes(is_act, ("hush", ("person", name), True))


class IsDeedTest(Asking):
    def test_deeds(self):
        for act, wrong in ACTS:
            self.yes(is_deed, (1, ANN, 0, act))
            self.yes(is_deed, (10 ** 12, ("cy", 2), 199, act))

    def test_number_and_time_are_free_of_one_another(self):
        self.yes(is_deed, (1, ANN, 7, ("back", STAMP)))
        self.yes(is_deed, (7, ANN, 0, ("back", STAMP)))

    def test_each_part_wrong(self):
        deed = (4, BOB, 1, ("seen", STAMP))
        for time in NO_WHOLES + [0, -1]:
            self.no(is_deed, put(deed, 0, time))
        for hand in NOTHINGS + [("bob", 1), ("dee", 0), ["bob", 0], ("bob", True), ("bob", False), "bob", "bob0"]:
            self.no(is_deed, put(deed, 1, hand))
        for number in NO_WHOLES + [-1, -2]:
            self.no(is_deed, put(deed, 2, number))
        for act in NOTHINGS + [["seen", STAMP], ("seen", (0, ANN)), ("see", STAMP), ("seen",), STAMP, "seen"]:
            self.no(is_deed, put(deed, 3, act))

    def test_other_forms(self):
        deed = (4, BOB, 1, ("seen", STAMP))
        for thing in [list(deed), (deed,), [deed], deed + (None,), deed + (deed[3],), ((4, BOB), 1, deed[3])]:
            self.no(is_deed, thing)
        for k in range(4):
            self.no(is_deed, deed[:k] + deed[k + 1:])
            self.no(is_deed, deed[:k] + (None,) + deed[k:])

    def test_of_anything(self):
        for thing in NOTHINGS:
            self.no(is_deed, thing)


class StampOfTest(unittest.TestCase):
    def test_time_and_hand(self):
        self.assertEqual(stamp_of((4, BOB, 1, ("seen", STAMP))), (4, BOB))
        for hand in hands_of(HOUSE):
            stamp = stamp_of((9, hand, 3, ("say", "hall", STAMP, "hi")))
            self.assertEqual(stamp, (9, hand))
            self.assertIs(is_stamp(HOUSE, stamp), True)


class IsWithinTest(unittest.TestCase):
    def deed(self, hand, number):
        return (number + 5, hand, number, ("back", STAMP))

    def test_counts_at_the_number_and_one_beyond(self):
        for number in [0, 1, 2, 7]:
            for count in range(1, 10):
                self.assertIs(is_within(self.deed(ANN, number), ((ANN, count),)), count > number, (number, count))

    def test_the_empty_vector(self):
        self.assertIs(is_within(self.deed(ANN, 0), ()), False)

    def test_only_its_own_hand_counts(self):
        self.assertIs(is_within(self.deed(BOB, 0), ((ANN, 9), (("cy", 0), 9))), False)
        self.assertIs(is_within(self.deed(("ann", 1), 0), ((ANN, 9),)), False)
        vector = ((ANN, 9), (("ann", 1), 1), (BOB, 2), (("cy", 0), 9))
        self.assertIs(is_within(self.deed(BOB, 1), vector), True)
        self.assertIs(is_within(self.deed(BOB, 2), vector), False)
        self.assertIs(is_within(self.deed(("ann", 1), 0), vector), True)
        self.assertIs(is_within(self.deed(("ann", 1), 1), vector), False)
        self.assertIs(is_within(self.deed(("cy", 0), 8), vector), True)

    def test_the_time_does_not_matter(self):
        self.assertIs(is_within((10 ** 9, ANN, 0, ("back", STAMP)), ((ANN, 1),)), True)
        self.assertIs(is_within((1, ANN, 1, ("back", STAMP)), ((ANN, 1),)), False)


class NothingIsChangedTest(unittest.TestCase):
    def test_what_is_asked_of_stays_and_is_told_the_same_again(self):
        wrong = [["say", ["hall"], [None], ["hi"]], [[1, ["ann", 0]], [2]], [3, ["ann", 0], 0, ["back", [1, ["ann"]]]]]
        things = wrong + [tuple(thing) for thing in wrong] + [act for act, parts in ACTS] + [VECTOR, STAMP]
        before = copy.deepcopy(things)
        for ask in [is_stamp, is_vector, is_act, is_deed]:
            first = [ask(HOUSE, thing) for thing in things]
            self.assertEqual([ask(HOUSE, thing) for thing in things], first)
            self.assertEqual(things, before)


if __name__ == "__main__":
    unittest.main()
