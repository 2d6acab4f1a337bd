import copy
import itertools
import unittest

from samples import HOUSE, NO_WHOLES, NOTHINGS
from talkmarks.errors import NoHouse, NoRoom
from talkmarks.houses import hands_of, house_of, is_hand, is_house, members_of, rooms_of

PEOPLE = (("ann", 1), ("bob", 2), ("cy", 3), ("dee", 1))
ROOMS = (("aisle", ("ann",)), ("hall", ("ann", "bob", "cy", "dee")), ("shed", ("bob", "dee")), ("yard", ("cy",)))

# Each makes no house, however its parts are put in order.
BAD_PEOPLE = [
    (), PEOPLE + (("eve", 1),),
    (("ann", 0),), (("ann", 4),), (("ann", -1),), (("ann", True),), (("ann", False),), (("ann", None),),
    (("ann", "1"),), (("ann", (1,)),), (("ann", [1]),),
    (("", 1),), (("abcdefghi", 1),), (("Ann", 1),), (("ann ", 1),), (("an1", 1),), ((None, 1),), ((1, 1),),
    ((True, 1),), ((("ann",), 1),), ((["ann"], 1),),
    (("ann", 1), ("ann", 1)), (("ann", 1), ("ann", 2)), (("ann", 1), ("bob", 1), ("bob", 1)),
    (("ann",),), (("ann", 1, 1),), ((),), (None,), ("ann",), (1,), ("an",), (True,),
    (("ann", 1), ("bob", 0)), (("ann", 1), None), (("ann", 1), (1, 1)), (("ann", 1), (None, 1)), ("ann", 1),
    (("ann", 1), ()), (("ann", 1), ("bob", 1, 1)),
]
BAD_ROOMS = [
    (), ROOMS + (("zoo", ("ann",)),),
    (("hall", ()),), (("hall", ("eve",)),), (("hall", ("ann", "eve")),), (("hall", ("ann", "ann")),),
    (("hall", ("ann", "bob", "bob")),), (("hall", None),), (("hall", "ann"),), (("hall", 1),), (("hall", True),),
    (("hall", ""),), (("hall", (None,)),), (("hall", (1,)),), (("hall", (True,)),), (("hall", (("ann",),)),),
    (("hall", (["ann"],)),), (("hall", ("ann", None)),), (("hall", ("ann", 1)),), (("hall", ("ann", ())),),
    (("hall", ("Ann",)),), (("hall", ("",)),), (("hall", ("hall",)),),
    (("", ("ann",)),), (("abcdefghi", ("ann",)),), (("Hall", ("ann",)),), ((None, ("ann",)),), ((1, ("ann",)),),
    ((("hall",), ("ann",)),), ((["hall"], ("ann",)),), ((True, ("ann",)),),
    (("hall", ("ann",)), ("hall", ("ann",))), (("hall", ("ann",)), ("hall", ("bob",))),
    (("hall",),), (("hall", ("ann",), 1),), ((),), (None,), ("hall",), (1,), ("ha",),
    (("hall", ("ann",)), None), (("hall", ("ann",)), (1, ("ann",))), (("hall", ("ann",)), ("yard", ())),
    ("hall", ("ann",)),
]
NO_ROWS = [None, True, False, 0, 1, "", "ann", "hall"]


class IsHouseTest(unittest.TestCase):
    def test_houses(self):
        for people in [PEOPLE[:1], PEOPLE[:2], PEOPLE[:3], PEOPLE]:
            self.assertIs(is_house((people, (("hall", ("ann",)),))), True, people)
        for rooms in [ROOMS[:1], ROOMS[:2], ROOMS[:3], ROOMS]:
            self.assertIs(is_house((PEOPLE, rooms)), True, rooms)
        self.assertIs(is_house(HOUSE), True)

    def test_names_and_hands_at_their_bounds(self):
        for name in ["a", "abcdefgh"]:
            for many in [1, 2, 3]:
                self.assertIs(is_house((((name, many),), ((name, (name,)),))), True)

    def test_a_room_may_be_called_like_a_person(self):
        self.assertIs(is_house(((("ann", 1),), (("ann", ("ann",)),))), True)

    def test_bad_people(self):
        for people in BAD_PEOPLE + NO_ROWS:
            self.assertIs(is_house((people, (("hall", ("ann",)),))), False, people)

    def test_bad_rooms(self):
        for rooms in BAD_ROOMS + NO_ROWS:
            self.assertIs(is_house((PEOPLE, rooms)), False, rooms)

    def test_not_rising(self):
        self.assertIs(is_house(((("bob", 1), ("ann", 1)), (("hall", ("ann",)),))), False)
        self.assertIs(is_house(((("ann", 1), ("cy", 1), ("bob", 1)), (("hall", ("ann",)),))), False)
        self.assertIs(is_house((PEOPLE, (("yard", ("ann",)), ("hall", ("ann",))))), False)
        self.assertIs(is_house((PEOPLE, (("hall", ("bob", "ann")),))), False)
        self.assertIs(is_house((PEOPLE, (("hall", ("ann", "cy", "bob")),))), False)

    def test_lists_in_the_place_of_tuples(self):
        people, rooms = HOUSE
        for thing in [[people, rooms], (list(people), rooms), (people, list(rooms)),
                      (tuple([list(pair) for pair in people]), rooms), (people, tuple([list(pair) for pair in rooms])),
                      (people, tuple([(room, list(members)) for room, members in rooms]))]:
            self.assertIs(is_house(thing), False, thing)

    def test_parts_left_out_or_put_in(self):
        people, rooms = HOUSE
        for thing in [(), (people,), (rooms,), (rooms, people), (people, rooms, ()), (people, rooms, rooms)]:
            self.assertIs(is_house(thing), False, thing)

    def test_of_anything(self):
        for thing in NOTHINGS:
            self.assertIs(is_house(thing), False, repr(thing)[:80])
            self.assertIs(is_house((thing, HOUSE[1])), False, repr(thing)[:80])
            self.assertIs(is_house((HOUSE[0], thing)), False, repr(thing)[:80])
            self.assertIs(is_house((HOUSE[0], (("hall", (thing,)),))), False, repr(thing)[:80])
            if thing != ("ann",):
                self.assertIs(is_house((HOUSE[0], (("hall", thing),))), False, repr(thing)[:80])


class HouseOfTest(unittest.TestCase):
    def refused(self, people, rooms):
        with self.assertRaises(NoHouse, msg=repr((people, rooms))[:200]):
            house_of(people, rooms)

    def test_in_any_order(self):
        for people in itertools.permutations(PEOPLE):
            for rooms in itertools.permutations(ROOMS[1:]):
                self.assertEqual(house_of(people, rooms), (PEOPLE, ROOMS[1:]))
                self.assertEqual(house_of(list(people), list(rooms)), (PEOPLE, ROOMS[1:]))

    def test_members_in_any_order(self):
        for members in itertools.permutations(("ann", "bob", "cy")):
            for row in [members, list(members)]:
                house = house_of(PEOPLE, [("hall", row)])
                self.assertEqual(house, (PEOPLE, (("hall", ("ann", "bob", "cy")),)))
                self.assertIs(is_house(house), True)

    def test_one_and_four(self):
        self.assertEqual(house_of([("a", 3)], [("b", ["a"])]), ((("a", 3),), (("b", ("a",)),)))
        self.assertEqual(house_of(PEOPLE, ROOMS), (PEOPLE, ROOMS))

    def test_bad_people(self):
        for people in BAD_PEOPLE:
            self.refused(people, (("hall", ("ann",)),))
            self.refused(list(people), [("hall", ["ann"])])
            self.refused(people[::-1], [("hall", ["ann"])])

    def test_bad_rooms(self):
        for rooms in BAD_ROOMS:
            self.refused(PEOPLE, rooms)
            self.refused(list(PEOPLE), list(rooms))
            self.refused(PEOPLE, rooms[::-1])

    def test_told_twice_in_any_order(self):
        self.refused([("ann", 1), ("bob", 1), ("ann", 1)], [("hall", ["ann"])])
        self.refused([("ann", 1), ("bob", 1), ("ann", 2)], [("hall", ["ann"])])
        self.refused(PEOPLE, [("hall", ["ann"]), ("yard", ["ann"]), ("hall", ["ann"])])
        self.refused(PEOPLE, [("hall", ["ann", "bob", "ann"])])

    def test_of_anything(self):
        for thing in NOTHINGS + NO_ROWS:
            self.refused(thing, HOUSE[1])
            self.refused(HOUSE[0], thing)
            self.refused(thing, thing)

    def test_of_anything_among_the_people(self):
        for thing in NOTHINGS:
            self.refused([("ann", 1), thing], [("hall", ["ann"])])
            self.refused([("ann", 1), (thing, 1)], [("hall", ["ann"])])
        for thing in NO_WHOLES:
            self.refused([("ann", thing)], [("hall", ["ann"])])

    def test_of_anything_among_the_members(self):
        for thing in NOTHINGS:
            self.refused(PEOPLE, [("hall", [thing])])
            self.refused(PEOPLE, [("hall", ["bob", thing, "ann"])])
            if thing not in (["ann"], ("ann",)):
                self.refused(PEOPLE, [("hall", thing)])

    def test_what_is_handed_in_stays_as_it_was(self):
        people = [("cy", 3), ("ann", 2), ("bob", 1)]
        rooms = [("yard", ["cy", "ann"]), ("hall", ["bob", "cy", "ann"])]
        before = copy.deepcopy((people, rooms))
        self.assertEqual(house_of(people, rooms), HOUSE)
        self.assertEqual((people, rooms), before)
        self.refused(people, rooms + [("hall", ["ann"])])
        self.assertEqual((people, rooms), before)

    def test_what_is_done_to_it_afterwards_changes_nothing(self):
        people = [("cy", 3), ("ann", 2), ("bob", 1)]
        rooms = [("yard", ["cy", "ann"]), ("hall", ["bob", "cy", "ann"])]
        house = house_of(people, rooms)
        rooms[0][1].append("bob")
        rooms[1][1].clear()
        rooms.pop()
        people.clear()
        self.assertEqual(house, HOUSE)


class IsHandTest(unittest.TestCase):
    def test_each_hand_up_to_many(self):
        for name, many in HOUSE[0]:
            for k in range(-2, 6):
                self.assertIs(is_hand(HOUSE, (name, k)), 0 <= k < many, (name, k))

    def test_truths_are_no_numbers(self):
        self.assertIs(is_hand(HOUSE, ("ann", True)), False)
        self.assertIs(is_hand(HOUSE, ("ann", False)), False)

    def test_nobody_of_the_house(self):
        for name in ["dee", "an", "annn", "Ann", "hall", "", "ann "]:
            self.assertIs(is_hand(HOUSE, (name, 0)), False, name)

    def test_wrong_forms(self):
        for thing in [["ann", 0], ("ann",), ("ann", 0, 0), (0, "ann"), ("ann", "0"), ("ann", None), "ann0", "ann",
                      ("ann", (0,)), ("ann", [0]), (("ann",), 0), (["ann"], 0), (("ann", 0),), [("ann", 0)]]:
            self.assertIs(is_hand(HOUSE, thing), False, thing)

    def test_of_anything(self):
        for thing in NOTHINGS:
            self.assertIs(is_hand(HOUSE, thing), False, repr(thing)[:80])
            self.assertIs(is_hand(HOUSE, (thing, 0)), False, repr(thing)[:80])
        for thing in NO_WHOLES:
            self.assertIs(is_hand(HOUSE, ("ann", thing)), False, repr(thing)[:80])


class HandsRoomsMembersTest(unittest.TestCase):
    def test_hands_in_order(self):
        hands = [("ann", 0), ("ann", 1), ("bob", 0), ("cy", 0), ("cy", 1), ("cy", 2)]
        self.assertEqual(hands_of(HOUSE), hands)
        self.assertEqual(hands_of(HOUSE), sorted(hands))
        self.assertEqual(hands_of(((("a", 1),), (("b", ("a",)),))), [("a", 0)])

    def test_hands_are_hands(self):
        for hand in hands_of((PEOPLE, ROOMS)):
            self.assertIs(is_hand((PEOPLE, ROOMS), hand), True)
        self.assertEqual(len(hands_of((PEOPLE, ROOMS))), 7)

    def test_rooms_of_a_person(self):
        self.assertEqual(rooms_of(HOUSE, "ann"), ["hall", "yard"])
        self.assertEqual(rooms_of(HOUSE, "bob"), ["hall"])
        self.assertEqual(rooms_of((PEOPLE, ROOMS), "dee"), ["hall", "shed"])
        self.assertEqual(rooms_of((PEOPLE, (("hall", ("ann",)),)), "bob"), [])

    def test_members_of_a_room(self):
        self.assertEqual(members_of(HOUSE, "hall"), ("ann", "bob", "cy"))
        self.assertEqual(members_of(HOUSE, "yard"), ("ann", "cy"))
        self.assertEqual([members_of((PEOPLE, ROOMS), room) for room, members in ROOMS],
                         [members for room, members in ROOMS])

    def test_no_such_room(self):
        for room in ["shed", "ann", "", "Hall", "hal", "halls", "hall "]:
            with self.assertRaises(NoRoom):
                members_of(HOUSE, room)

    def test_lists_are_the_asker_s_own(self):
        for ask in [lambda: hands_of(HOUSE), lambda: rooms_of(HOUSE, "ann")]:
            told = ask()
            before = list(told)
            told.append("more")
            told.reverse()
            self.assertEqual(ask(), before)
            told.clear()
            self.assertEqual(ask(), before)
            self.assertIsNot(ask(), ask())

    def test_kinds(self):
        self.assertIsInstance(hands_of(HOUSE), list)
        self.assertIsInstance(rooms_of(HOUSE, "ann"), list)
        self.assertIsInstance(members_of(HOUSE, "hall"), tuple)


if __name__ == "__main__":
    unittest.main()
