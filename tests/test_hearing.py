import itertools
import random
import unittest

from chance_logs import chance_log, chance_parts
from samples import ANN, ANN1, BOB, CY, CY1, CY2, HOUSE, NOTHINGS, log_of, say
from tellings import told
from talkmarks.deeds import is_deed
from talkmarks.errors import Clash, Gap, NoDeed, Strange, TalkError
from talkmarks.hands import Hand
from talkmarks.houses import hands_of
from talkmarks.logs import is_log, joined_logs

A = say("a")
B = say("b")
TALK = log_of((1, ANN, A), (2, BOB, say("b", (1, ANN))), (2, CY, A), (3, ANN, B), (5, CY, ("seen", (1, ANN))))
# Each of these is near a deed of the house.
NO_DEEDS = NOTHINGS + [
    (0, ANN, 0, A), (True, ANN, 0, A), (1, ANN, False, A), (1, ANN, -1, A), (1, ("ann", 2), 0, A),
    (1, ("ann", False), 0, A), (1, ["ann", 0], 0, A), [1, ANN, 0, A], (1, ANN, 0, list(A)), (1, ANN, 0),
    (1, ANN, 0, A, None), (1, ANN, 0, say("a", None, "shed")), (1, ANN, 0, say("")), (1, ("dan", 0), 0, A),
    (1, ANN, 0, ("like", (1, ANN), "good", 1)), (1, ANN, 0, ("hush", ("room", "shed"), True)), ((1, ANN, 0, A),)]


class HearCase(unittest.TestCase):
    def hears(self, hand, deeds, many, log):
        self.assertEqual(hand.hear(deeds), many)
        self.assertEqual(hand.heard(), log)
        self.assertIsInstance(hand.heard(), tuple)
        self.assertTrue(is_log(HOUSE, hand.heard()))

    def refused(self, error, hand, deeds):
        before = hand.heard()
        for form in [list(deeds), tuple(deeds), list(deeds)[::-1]]:
            with self.assertRaises(TalkError) as caught:
                hand.hear(form)
            self.assertIs(type(caught.exception), error, repr(form)[:200])
            self.assertEqual(hand.heard(), before)
        return caught.exception

    def refused_at(self, error, hand, deeds, place, number):
        refusal = self.refused(error, hand, deeds)
        self.assertEqual((refusal.hand, refusal.number), (place, number))


class HearTest(HearCase):
    def test_none_at_all(self):
        for deeds in [[], ()]:
            self.hears(Hand(HOUSE, "ann", 1), deeds, 0, ())
        hand = Hand(HOUSE, "bob", 0)
        hand.say("hall", "a")
        self.hears(hand, [], 0, ((1, BOB, 0, A),))

    def test_in_any_order(self):
        for order in itertools.permutations(TALK):
            self.hears(Hand(HOUSE, "ann", 1), order, 5, TALK)
            self.hears(Hand(HOUSE, "cy", 2), list(order), 5, TALK)

    def test_some_twice(self):
        self.hears(Hand(HOUSE, "ann", 1), TALK + TALK, 5, TALK)
        self.hears(Hand(HOUSE, "ann", 1), list(TALK) * 3 + [TALK[2]], 5, TALK)
        self.hears(Hand(HOUSE, "ann", 1), [TALK[0], TALK[0]], 1, TALK[:1])

    def test_some_known_already(self):
        hand = Hand(HOUSE, "ann", 1)
        self.hears(hand, TALK[:2], 2, TALK[:2])
        self.hears(hand, TALK[:2], 0, TALK[:2])
        self.hears(hand, TALK[1:4], 2, TALK[:4])
        self.hears(hand, TALK[::-1], 1, TALK)
        self.hears(hand, TALK, 0, TALK)
        self.hears(hand, (), 0, TALK)

    def test_what_goes_on_where_the_log_ends(self):
        hand = Hand(HOUSE, "ann", 1)
        for k, deed in enumerate(TALK):
            self.hears(hand, [deed], 1, TALK[:k + 1])

    def test_its_own_deeds(self):
        hand = Hand(HOUSE, "bob", 0)
        hand.say("hall", "a")
        hand.say("hall", "b")
        own = hand.heard()
        self.hears(hand, own, 0, own)
        self.hears(hand, (own[1],), 0, own)
        self.hears(hand, log_of((1, ANN, A)) + own + own, 1, ((1, ANN, 0, A),) + own)

    def test_another_hand_of_the_same_person_is_another(self):
        self.hears(Hand(HOUSE, "ann", 0), log_of((1, ANN1, A)), 1, ((1, ANN1, 0, A),))

    def test_what_was_handed_in_stays_as_it_was(self):
        deeds = list(TALK[::-1])
        hand = Hand(HOUSE, "ann", 1)
        hand.hear(deeds)
        self.assertEqual(deeds, list(TALK[::-1]))
        deeds.clear()
        self.assertEqual(hand.heard(), TALK)

    def test_whatever_messages_haven_t_been_heard(self):
        log = log_of((7, CY, ("back", (99, BOB))), (8, CY, say("a", (50, ANN))), (9, BOB, say("a", None, "yard")))
        self.hears(Hand(HOUSE, "ann", 0), log, 3, log)

    def test_lesser_stamps_than_its_own(self):
        hand = Hand(HOUSE, "cy", 0)
        hand.hear(log_of((50, ANN, A)))
        hand.say("hall", "b")
        self.hears(hand, log_of((1, BOB, A), (51, ANN1, B)), 2,
                   ((1, BOB, 0, A), (50, ANN, 0, A), (51, ANN1, 0, B), (51, CY, 0, B)))

    def test_in_whatever_parts_and_order(self):
        for seed in range(30):
            log = tuple([deed for deed in chance_log(seed, 50) if deed[1] != CY2])
            parts = chance_parts(seed, log, 3)
            random.Random(seed).shuffle(parts)
            hand = Hand(HOUSE, "cy", 2)
            whole = ()
            for part in parts + parts:
                shuffled = random.Random(seed + 1).sample(part + part, 2 * len(part))
                joined = joined_logs(whole, part)
                self.hears(hand, shuffled, len(joined) - len(whole), joined)
                whole = joined
            self.assertEqual(whole, log)


class NoDeedTest(HearCase):
    def test_what_is_no_deed(self):
        hand = Hand(HOUSE, "bob", 0)
        hand.hear(TALK[:1])
        for thing in NO_DEEDS:
            self.assertFalse(is_deed(HOUSE, thing))
            self.refused(NoDeed, hand, [thing])
            self.refused(NoDeed, hand, [TALK[0], thing])
            self.refused(NoDeed, hand, [thing, TALK[2], TALK[2]])

    def test_ahead_of_all(self):
        hand = Hand(HOUSE, "ann", 0)
        hand.hear(log_of((1, BOB, A)))
        wrong = [(1, BOB, 0, B), (1, CY, 0, A), (1, CY, 0, B), (1, ANN, 0, A), (1, CY1, 7, A)]
        for deed in wrong:
            self.refused(NoDeed, hand, [deed, None])
        self.refused(NoDeed, hand, wrong + [(0, ANN, 0, A)])

    def test_one_deed_in_the_place_of_several(self):
        self.refused(NoDeed, Hand(HOUSE, "bob", 0), TALK[0])

    def test_neither_a_list_nor_a_tuple(self):
        hand = Hand(HOUSE, "bob", 0)
        for thing in [None, True, 0, 7, "", "ann", {}]:
            with self.assertRaises(NoDeed):
                hand.hear(thing)
        self.assertEqual(hand.heard(), ())

    def test_deeds_of_another_house(self):
        house = ((("ann", 1),), (("hall", ("ann",)),))
        hand = Hand(house, "ann", 0)
        self.refused(NoDeed, hand, log_of((1, BOB, A)))


class ClashTest(HearCase):
    def test_two_unlike_deeds_of_one_place(self):
        hand = Hand(HOUSE, "bob", 0)
        self.refused_at(Clash, hand, [(1, ANN, 0, A), (1, ANN, 0, B)], ANN, 0)
        self.refused_at(Clash, hand, [(1, ANN, 0, A), (2, ANN, 0, A)], ANN, 0)
        self.refused_at(Clash, hand, [(1, ANN, 0, A), (2, ANN, 1, A), (2, ANN, 1, B), (1, ANN, 0, A)], ANN, 1)
        self.refused_at(Clash, hand, [(1, ANN, 0, A), (1, ANN, 0, B), (1, ANN, 0, A)], ANN, 0)

    def test_unlike_a_deed_of_the_log(self):
        hand = Hand(HOUSE, "bob", 0)
        hand.hear(TALK[:1] + TALK[2:])
        self.refused_at(Clash, hand, [(1, ANN, 0, B)], ANN, 0)
        self.refused_at(Clash, hand, [(2, ANN, 0, A)], ANN, 0)
        self.refused_at(Clash, hand, [(1, ANN, 0, A), (3, ANN, 1, A)], ANN, 1)
        self.refused_at(Clash, hand, [(9, CY, 1, ("seen", (1, ANN)))], CY, 1)
        self.refused_at(Clash, hand, [(5, CY, 1, ("rung", (1, ANN)))], CY, 1)

    def test_unlike_its_own_deed(self):
        hand = Hand(HOUSE, "bob", 0)
        hand.say("hall", "a")
        self.refused_at(Clash, hand, [(1, BOB, 0, B)], BOB, 0)
        self.refused_at(Clash, hand, [(2, BOB, 0, A)], BOB, 0)
        # Two of its own that it hasn't done, unlike one another.
        self.refused_at(Clash, hand, [(2, BOB, 1, A), (2, BOB, 1, B)], BOB, 1)

    def test_truths_are_unlike(self):
        hand = Hand(HOUSE, "bob", 0)
        hand.hear(log_of((1, ANN, ("hush", ("room", "hall"), True))))
        self.refused_at(Clash, hand, log_of((1, ANN, ("hush", ("room", "hall"), False))), ANN, 0)

    def test_the_first_hand_and_its_least_number(self):
        hand = Hand(HOUSE, "bob", 0)
        hand.hear(log_of((1, ANN1, A), (2, ANN1, A), (3, ANN1, A), (1, CY, A)))
        self.refused_at(Clash, hand, [(3, ANN1, 2, B), (2, ANN1, 1, B), (1, CY, 0, B)], ANN1, 1)
        self.refused_at(Clash, hand, [(1, CY, 0, B), (1, CY1, 0, A), (1, CY1, 0, B)], CY, 0)
        self.refused_at(Clash, hand, [(1, CY, 0, B), (9, ANN, 5, A), (9, ANN, 5, B)], ANN, 5)

    def test_ahead_of_strange_gap_and_times(self):
        hand = Hand(HOUSE, "ann", 0)
        hand.hear(log_of((5, CY, A)))
        clash = (5, CY, 0, B)
        self.refused_at(Clash, hand, [clash, (1, ANN, 0, A)], CY, 0)
        self.refused_at(Clash, hand, [clash, (1, ANN1, 3, A)], CY, 0)
        self.refused_at(Clash, hand, [clash, (2, ANN1, 0, A), (1, ANN1, 1, A)], CY, 0)
        self.refused_at(Clash, hand, [(7, CY, 9, A), (7, CY, 9, B), (1, BOB, 1, A)], CY, 9)


class StrangeTest(HearCase):
    def test_its_own_deed_that_it_has_not_done(self):
        hand = Hand(HOUSE, "bob", 0)
        self.refused(Strange, hand, log_of((1, BOB, A)))
        hand.say("hall", "a")
        self.refused(Strange, hand, ((1, BOB, 0, A), (2, BOB, 1, A)))
        self.refused(Strange, hand, ((2, BOB, 1, A),))
        self.refused(Strange, hand, ((9, BOB, 7, A),))

    def test_ahead_of_gap_and_times(self):
        hand = Hand(HOUSE, "bob", 0)
        self.refused(Strange, hand, [(1, BOB, 1, A)])
        self.refused(Strange, hand, [(1, BOB, 0, A), (1, ANN, 3, A)])
        self.refused(Strange, hand, [(1, BOB, 0, A), (2, ANN, 0, A), (1, ANN, 1, A)])
        self.refused(Strange, hand, [(2, BOB, 0, A), (1, BOB, 1, A)])

    def test_others_at_the_same_hand_are_strange_to_nobody_else(self):
        self.hears(Hand(HOUSE, "ann", 0), log_of((1, BOB, A)), 1, log_of((1, BOB, A)))


class GapTest(HearCase):
    def test_the_first_that_lacks(self):
        hand = Hand(HOUSE, "bob", 0)
        self.refused_at(Gap, hand, [(1, ANN, 1, A)], ANN, 0)
        self.refused_at(Gap, hand, [(1, ANN, 10 ** 12, A)], ANN, 0)
        self.refused_at(Gap, hand, [(1, ANN, 0, A), (2, ANN, 2, A)], ANN, 1)
        self.refused_at(Gap, hand, [(1, ANN, 0, A), (2, ANN, 2, A), (3, ANN, 4, A)], ANN, 1)
        self.refused_at(Gap, hand, [(1, ANN, 0, A), (2, ANN, 1, A), (9, ANN, 7, A)], ANN, 2)

    def test_behind_the_log(self):
        hand = Hand(HOUSE, "bob", 0)
        hand.hear(TALK[:1] + TALK[2:])
        self.refused_at(Gap, hand, [(9, ANN, 3, A)], ANN, 2)
        self.refused_at(Gap, hand, [(9, ANN, 2, A), (10, CY, 5, A), (9, CY, 3, A)], CY, 2)
        self.refused_at(Gap, hand, [(9, ANN1, 2, A)], ANN1, 0)

    def test_the_first_hand(self):
        hand = Hand(HOUSE, "bob", 0)
        self.refused_at(Gap, hand, [(1, CY, 1, A), (2, CY1, 1, A), (1, ANN1, 0, A), (9, ANN1, 7, A)], ANN1, 1)
        self.refused_at(Gap, hand, [(1, CY1, 1, A), (2, CY, 1, A)], CY, 0)

    def test_ahead_of_times(self):
        hand = Hand(HOUSE, "bob", 0)
        self.refused_at(Gap, hand, [(2, ANN, 0, A), (1, ANN, 1, A), (1, CY, 1, A)], CY, 0)
        self.refused_at(Gap, hand, [(2, ANN, 0, A), (1, ANN, 1, A), (9, ANN, 3, A)], ANN, 2)

    def test_filled_it_is_heard(self):
        hand = Hand(HOUSE, "bob", 0)
        deeds = [(k + 1, ANN, k, A) for k in range(5)]
        self.refused_at(Gap, hand, deeds[:2] + deeds[3:], ANN, 2)
        self.hears(hand, deeds, 5, tuple(deeds))


class TimesTest(HearCase):
    def test_times_that_do_not_rise_with_the_numbers(self):
        hand = Hand(HOUSE, "bob", 0)
        self.refused_at(Clash, hand, [(2, ANN, 0, A), (1, ANN, 1, B)], ANN, 1)
        self.refused_at(Clash, hand, [(2, ANN, 0, A), (2, ANN, 1, B)], ANN, 1)
        self.refused_at(Clash, hand, [(2, ANN, 0, A), (2, ANN, 1, A)], ANN, 1)
        self.refused_at(Clash, hand, [(1, ANN, 0, A), (5, ANN, 1, A), (3, ANN, 2, A), (4, ANN, 3, A), (4, ANN, 4, A)],
                        ANN, 2)
        self.refused_at(Clash, hand, [(3, ANN, 0, A), (5, ANN, 1, A), (5, ANN, 2, A), (1, ANN, 3, A)], ANN, 2)

    def test_behind_the_log(self):
        hand = Hand(HOUSE, "bob", 0)
        hand.hear(log_of((7, ANN, A)))
        self.refused_at(Clash, hand, [(7, ANN, 1, B)], ANN, 1)
        self.refused_at(Clash, hand, [(7, ANN, 0, A), (6, ANN, 1, B)], ANN, 1)
        self.hears(hand, [(8, ANN, 1, B)], 1, log_of((7, ANN, A), (8, ANN, B)))

    def test_the_first_hand(self):
        hand = Hand(HOUSE, "bob", 0)
        self.refused_at(Clash, hand, [(2, CY1, 0, A), (1, CY1, 1, A), (1, CY, 0, A), (2, CY, 1, A), (2, CY, 2, A)],
                        CY, 2)
        self.refused_at(Clash, hand, [(2, CY, 0, A), (1, CY, 1, A), (1, ANN, 0, A), (2, ANN, 1, A), (2, ANN, 2, A)],
                        ANN, 2)

    def test_the_same_times_at_unlike_hands_are_no_clash(self):
        log = log_of((1, ANN, A), (1, ANN1, A), (1, CY, A), (2, ANN, A), (2, CY, A))
        self.hears(Hand(HOUSE, "bob", 0), log[::-1], 5, log)


class AfterTest(HearCase):
    def test_a_deed_behind_a_refusal_has_the_time_and_number_it_would_have_had(self):
        hand = Hand(HOUSE, "bob", 0)
        hand.hear(log_of((7, ANN, A)))
        for deeds in [[None], [(90, ANN, 0, A)], [(90, BOB, 0, A)], [(90, ANN, 2, A)], [(7, ANN, 1, A)],
                      [(90, CY, 0, A), None], [(90, CY, 0, A), (91, CY, 5, A)], [(90, CY, 0, A), (99, BOB, 0, A)]]:
            with self.assertRaises(TalkError):
                hand.hear(deeds)
        self.assertEqual(hand.say("hall", "b"), (8, BOB))
        self.assertEqual(hand.heard(), ((7, ANN, 0, A), (8, BOB, 0, B)))


def plain_hear(hand, log, things):
    """What point 24 says, asked refusal by refusal, of each hand and number by itself."""
    if not all([is_deed(HOUSE, thing) for thing in things]):
        return (NoDeed, None, None)
    every = list(log) + list(things)
    for place in sorted({(deed[1], deed[2]) for deed in every}):
        if len({deed for deed in every if (deed[1], deed[2]) == place}) > 1:
            return (Clash,) + place
    if any(thing[1] == hand and thing not in log for thing in things):
        return (Strange, None, None)
    times = {other: {deed[2]: deed[0] for deed in every if deed[1] == other} for other in hands_of(HOUSE)}
    for other in hands_of(HOUSE):
        for number in range(len(times[other])):
            if number not in times[other]:
                return (Gap, other, number)
    for other in hands_of(HOUSE):
        for number in range(1, len(times[other])):
            if times[other][number] <= times[other][number - 1]:
                return (Clash, other, number)
    return len(set(things) - set(log))


def spoiled(chance, deed):
    time, hand, number, act = deed
    return chance.choice([(time, hand, number, say("spoiled")), (time + chance.randint(-4, 4), hand, number, act),
                          (time, hand, number + chance.randint(-1, 2), act), (time, ANN, number, act),
                          (time, CY, number, act), (0, hand, number, act)])


def chance_things(chance, deeds):
    """All of these, or some, a few perhaps twice, a few perhaps spoiled, in any order."""
    things = list(deeds)
    if chance.randint(0, 3) == 0:
        things = chance.choices(things, k=chance.randint(0, len(things)))
    for k in range(chance.choice([0, 0, 1, 1, 2, 3]) if things else 0):
        place = chance.randrange(len(things))
        things[place] = spoiled(chance, things[place])
    chance.shuffle(things)
    return things


class ChanceTest(HearCase):
    def test_chance_deeds(self):
        met = {}
        for seed in range(1500):
            chance = random.Random(seed)
            whole = tuple([deed for deed in chance_log(seed, 14) if deed[1] != ANN])
            hand = Hand(HOUSE, "ann", 0)
            hand.hear(chance_parts(seed, whole, 1)[0])
            for k in range(chance.randint(0, 2)):
                hand.say("hall", "own")
            log = hand.heard()
            things = chance_things(chance, joined_logs(whole, log))
            due = plain_hear(ANN, log, things)
            self.assertEqual(told(hand.hear, things), due)
            refused = isinstance(due, tuple)
            after = log if refused else tuple(sorted(set(log) | set(things), key=lambda deed: deed[:2]))
            self.assertEqual(hand.heard(), after)
            kind = due[0] if refused else due > 0
            met[kind] = met.get(kind, 0) + 1
        self.assertEqual(set(met), {NoDeed, Clash, Strange, Gap, True, False})
        self.assertGreater(min(met.values()), 40, met)


if __name__ == "__main__":
    unittest.main()
