import itertools
import random
import unittest

from chance_logs import chance_log, chance_parts
from samples import ANN, ANN1, BOB, CY, CY1, HOUSE, NOTHINGS, log_of, say
from talkmarks.deeds import is_vector
from talkmarks.errors import Clash, TalkError
from talkmarks.houses import hands_of
from talkmarks.logs import is_log, joined_logs, lacking_in, parcel_of, vector_of

HI = say("hi")
# The stamps of ann's hands and of bob's cross.
LOG = log_of((1, ANN, HI), (1, BOB, HI), (2, ANN1, say("ho", (1, BOB))), (4, BOB, ("back", (1, BOB))),
             (5, ANN, ("change", (1, ANN), "ha")), (5, ANN1, ("like", (1, ANN), "good", True)), (9, ANN, HI))


def rest(log, vector):
    counts = dict(vector)
    return tuple([deed for deed in log if deed[2] >= counts.get(deed[1], 0)])


class IsLogTest(unittest.TestCase):
    def yes(self, thing):
        self.assertIs(is_log(HOUSE, thing), True, repr(thing)[:200])

    def no(self, thing):
        self.assertIs(is_log(HOUSE, thing), False, repr(thing)[:200])

    def test_none_one_and_several_deeds(self):
        self.yes(())
        self.yes(((1, ANN, 0, HI),))
        self.yes(((10 ** 12, ("cy", 2), 0, HI),))
        self.yes(LOG)

    def test_two_hundred_deeds(self):
        self.yes(tuple([(k + 1, ANN, k, HI) for k in range(200)]))
        hands = hands_of(HOUSE)
        self.yes(tuple([(k // 6 + 1, hands[k % 6], k // 6, HI) for k in range(198)]))

    def test_chance_logs(self):
        for seed in range(20):
            self.yes(chance_log(seed, 40))

    def test_a_message_need_not_have_been_heard(self):
        self.yes(((1, ANN, 0, ("back", (7, BOB))),))
        self.yes(((1, ANN, 0, say("hi", (1, ANN))),))

    def test_times_may_leave_gaps_and_be_shared_by_hands(self):
        self.yes(((3, ANN, 0, HI), (3, ANN1, 0, HI), (3, BOB, 0, HI), (700, ANN, 1, HI)))

    def test_a_list_in_the_place_of_the_tuple(self):
        self.no([])
        self.no(list(LOG))
        self.no(tuple([list(deed) for deed in LOG]))

    def test_one_deed_by_itself(self):
        self.no(LOG[0])

    def test_stamps_that_do_not_rise(self):
        self.no(((2, ANN, 0, HI), (1, BOB, 0, HI)))
        self.no(((1, BOB, 0, HI), (1, ANN, 0, HI)))
        self.no(((1, ANN1, 0, HI), (1, ANN, 0, HI)))
        self.no(((2, ANN, 0, HI), (1, ANN, 1, HI)))
        self.no(LOG[::-1])
        for order in itertools.permutations(LOG[:4]):
            self.assertIs(is_log(HOUSE, order), order == LOG[:4])

    def test_a_stamp_twice(self):
        self.no(((1, ANN, 0, HI), (1, ANN, 0, HI)))
        self.no(((1, ANN, 0, HI), (1, ANN, 1, HI)))
        self.no(((1, ANN, 0, HI), (1, ANN, 1, say("ho"))))
        self.no(LOG + LOG[-1:])

    def test_numbers_with_a_gap(self):
        self.no(((1, ANN, 1, HI),))
        self.no(((1, ANN, 0, HI), (2, ANN, 2, HI)))
        self.no(((1, ANN, 0, HI), (2, BOB, 1, HI)))
        self.no(((1, ANN, 0, HI), (2, ANN1, 1, HI)))
        for k in [0, 1, 2]:
            self.no(LOG[:k] + LOG[k + 1:])

    def test_numbers_twice_or_in_another_order(self):
        self.no(((1, ANN, 0, HI), (2, ANN, 0, HI)))
        self.no(((1, ANN, 1, HI), (2, ANN, 0, HI)))
        self.no(((1, ANN, 0, HI), (2, ANN, 1, HI), (3, ANN, 1, HI)))

    def test_what_is_no_deed_among_deeds(self):
        for thing in NOTHINGS:
            self.no((thing,))
            self.no(LOG + (thing,))
            self.no((thing,) + LOG)
            self.no(((1, ANN, 0, thing),))
            self.no(((1, thing, 0, HI),))
        for deed in [(0, ANN, 0, HI), (True, ANN, 0, HI), (1, ANN, False, HI), (1, ("ann", 2), 0, HI),
                     (1, ("ann", False), 0, HI), (1, ANN, 0, say("hi", None, "shed")), (1, ANN, 0, say(""))]:
            self.no((deed,))

    def test_of_anything(self):
        for thing in NOTHINGS:
            self.assertIs(is_log(HOUSE, thing), thing == (), repr(thing)[:80])

    def test_of_another_house(self):
        self.assertIs(is_log(((("ann", 1),), (("hall", ("ann",)),)), LOG), False)


class VectorOfTest(unittest.TestCase):
    def test_no_deed_and_one(self):
        self.assertEqual(vector_of(()), ())
        self.assertEqual(vector_of(((1, BOB, 0, HI),)), ((BOB, 1),))

    def test_each_hand_that_did_something_rising(self):
        self.assertEqual(vector_of(LOG), ((ANN, 3), (ANN1, 2), (BOB, 2)))
        self.assertEqual(vector_of(log_of((1, CY, HI), (2, BOB, HI), (3, ANN1, HI))),
                         ((ANN1, 1), (BOB, 1), (CY, 1)))

    def test_all_hands(self):
        log = log_of(*[(9 - k, hand, HI) for k, hand in enumerate(hands_of(HOUSE))])
        self.assertEqual(vector_of(log), tuple([(hand, 1) for hand in hands_of(HOUSE)]))

    def test_chance_logs(self):
        for seed in range(30):
            log = chance_log(seed, 40)
            hands = sorted({deed[1] for deed in log})
            counted = tuple([(hand, len([deed for deed in log if deed[1] == hand])) for hand in hands])
            self.assertEqual(vector_of(log), counted)
            self.assertIs(is_vector(HOUSE, vector_of(log)), True)


class LackingTest(unittest.TestCase):
    def test_no_hand_lacks_all(self):
        self.assertEqual(lacking_in(LOG, ()), LOG)
        self.assertEqual(lacking_in((), ()), ())
        self.assertEqual(lacking_in((), ((ANN, 3),)), ())

    def test_its_own_vector_lacks_nothing(self):
        self.assertEqual(lacking_in(LOG, vector_of(LOG)), ())
        self.assertEqual(lacking_in(LOG, tuple([(hand, 99) for hand in hands_of(HOUSE)])), ())

    def test_some_of_each_hand(self):
        self.assertEqual(lacking_in(LOG, ((ANN, 1), (BOB, 1))), (LOG[2], LOG[3], LOG[4], LOG[5], LOG[6]))
        self.assertEqual(lacking_in(LOG, ((ANN, 2), (ANN1, 1), (BOB, 2))), (LOG[5], LOG[6]))
        self.assertEqual(lacking_in(LOG, ((ANN1, 2), (CY, 7))), (LOG[0], LOG[1], LOG[3], LOG[4], LOG[6]))

    def test_chance_logs(self):
        for seed in range(30):
            log = chance_log(seed, 40)
            for part in chance_parts(seed, log, 4):
                lacking = lacking_in(log, vector_of(part))
                self.assertIsInstance(lacking, tuple)
                self.assertEqual(lacking, rest(log, vector_of(part)))
                self.assertEqual(sorted(part + lacking), sorted(log))

    def test_parcels_of_none_some_and_more(self):
        vector = ((ANN, 1), (BOB, 1))
        lacking = lacking_in(LOG, vector)
        for many in range(len(lacking) + 1):
            self.assertEqual(parcel_of(LOG, vector, many), lacking[:many])
            self.assertEqual(len(parcel_of(LOG, vector, many)), many)
        for many in [5, 6, 7, 100, 10 ** 12]:
            self.assertEqual(parcel_of(LOG, vector, many), lacking)

    def test_parcels_of_nothing(self):
        for many in [0, 1, 9]:
            self.assertEqual(parcel_of((), (), many), ())
            self.assertEqual(parcel_of(LOG, vector_of(LOG), many), ())
        self.assertEqual(parcel_of(LOG, (), 0), ())
        self.assertEqual(parcel_of(LOG, (), 1), LOG[:1])

    def test_parcel_by_parcel_all_is_heard(self):
        for seed in range(10):
            log = chance_log(seed, 30)
            heard = ()
            while heard != log:
                parcel = parcel_of(log, vector_of(heard), 3)
                self.assertGreater(len(parcel), 0)
                heard = joined_logs(heard, tuple(sorted(heard + parcel)))
                self.assertIs(is_log(HOUSE, heard), True)


class JoinedTest(unittest.TestCase):
    def joined(self, one, other, whole):
        for told in [joined_logs(one, other), joined_logs(other, one)]:
            self.assertEqual(told, whole)
            self.assertIsInstance(told, tuple)
            self.assertIs(is_log(HOUSE, told), True)

    def test_to_itself_and_to_none(self):
        for log in [(), LOG[:1], LOG] + [chance_log(seed, 30) for seed in range(10)]:
            self.joined(log, log, log)
            self.joined(log, (), log)

    def test_logs_of_unlike_hands(self):
        one = log_of((1, ANN, HI), (3, ANN, HI))
        other = log_of((1, BOB, HI), (2, BOB, HI), (4, BOB, HI))
        self.joined(one, other, (one[0], other[0], other[1], one[1], other[2]))

    def test_each_has_what_the_other_lacks(self):
        one = (LOG[0], LOG[1], LOG[4])
        other = (LOG[1], LOG[2], LOG[3], LOG[5])
        self.assertIs(is_log(HOUSE, one), True)
        self.assertIs(is_log(HOUSE, other), True)
        self.joined(one, other, LOG[:6])

    def test_a_longer_one(self):
        for k in range(len(LOG) + 1):
            self.joined(LOG[:k], LOG, LOG)

    def test_in_whatever_order_and_however_often(self):
        for seed in range(30):
            log = chance_log(seed, 40)
            parts = chance_parts(seed, log, 3)
            random.Random(seed).shuffle(parts)
            whole = ()
            for part in parts + parts:
                whole = joined_logs(whole, part)
                self.assertIs(is_log(HOUSE, whole), True)
            self.assertEqual(whole, log)

    def test_three_logs_however_they_are_bracketed(self):
        for seed in range(30):
            one, two, three = chance_parts(seed, chance_log(seed, 40), 3)[:3]
            self.assertEqual(joined_logs(joined_logs(one, two), three), joined_logs(one, joined_logs(two, three)))
            self.assertEqual(joined_logs(one, two), joined_logs(two, one))


class ClashTest(unittest.TestCase):
    def clash(self, one, other, hand, number):
        for first, second in [(one, other), (other, one)]:
            with self.assertRaises(Clash) as caught:
                joined_logs(first, second)
            self.assertEqual((caught.exception.hand, caught.exception.number), (hand, number))
            self.assertIsInstance(caught.exception, TalkError)

    def test_unlike_acts(self):
        self.clash(log_of((1, ANN, HI)), log_of((1, ANN, say("ho"))), ANN, 0)
        self.clash(log_of((1, ANN, say("hi", (1, BOB)))), log_of((1, ANN, HI)), ANN, 0)
        self.clash(log_of((1, ANN, ("like", (1, BOB), "good", True))),
                   log_of((1, ANN, ("like", (1, BOB), "good", False))), ANN, 0)
        self.clash(log_of((1, ANN, ("seen", (1, BOB)))), log_of((1, ANN, ("rung", (1, BOB)))), ANN, 0)

    def test_unlike_times(self):
        self.clash(log_of((1, ANN, HI)), log_of((2, ANN, HI)), ANN, 0)
        self.clash(log_of((1, ANN, HI), (2, ANN, HI)), log_of((1, ANN, HI), (3, ANN, HI)), ANN, 1)

    def test_a_stamp_of_unlike_numbers(self):
        self.clash(log_of((1, ANN, HI), (5, ANN, HI)), log_of((5, ANN, HI)), ANN, 0)
        self.clash(log_of((1, BOB, HI), (2, BOB, HI), (5, BOB, HI)), log_of((1, BOB, HI), (5, BOB, HI)), BOB, 1)

    def test_the_least_number_of_a_hand(self):
        one = log_of((1, ANN, HI), (2, ANN, HI), (3, ANN, HI), (4, ANN, HI))
        other = log_of((1, ANN, HI), (2, ANN, HI), (3, ANN, say("ho")), (4, ANN, say("ho")), (5, ANN, HI))
        self.clash(one, other, ANN, 2)

    def test_the_first_hand_though_its_number_and_time_be_greater(self):
        one = log_of((1, BOB, HI), (2, ANN1, HI), (3, ANN1, HI), (4, ANN1, HI), (1, CY, HI))
        other = log_of((1, BOB, say("ho")), (2, ANN1, HI), (3, ANN1, HI), (9, ANN1, HI), (1, CY, say("ho")))
        self.clash(one, other, ANN1, 2)

    def test_of_two_hands_of_a_person_the_lesser(self):
        one = log_of((1, CY, HI), (2, CY, HI), (1, CY1, HI))
        other = log_of((1, CY, HI), (2, CY, say("ho")), (1, CY1, say("ho")))
        self.clash(one, other, CY, 1)

    def test_the_same_deed_at_two_hands_is_no_clash(self):
        one = log_of((1, ANN, HI))
        other = log_of((1, ANN1, HI))
        self.assertEqual(joined_logs(one, other), one + other)

    def test_chance_logs(self):
        seen = 0
        for seed in range(60):
            one = chance_log(seed, 25)
            chance = random.Random(seed)
            other = tuple([deed if chance.randint(0, 9) else deed[:3] + (("seen", (77, CY)),) for deed in one])
            unlike = sorted([(deed[1], deed[2]) for deed, twin in zip(one, other) if deed != twin])
            if unlike:
                seen += 1
                self.clash(one, other, unlike[0][0], unlike[0][1])
        self.assertGreater(seen, 30)


if __name__ == "__main__":
    unittest.main()
