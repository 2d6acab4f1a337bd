"""What the document promises over the whole program, on several hands that do, hear and ring in many orders."""

import random
import unittest

from chance_logs import SAYINGS, Plain
from samples import HOUSE
from tellings import EVERYBODY, all_told, told, told_of_log
from talkmarks.bells import bells_for
from talkmarks.counts import new_for, totals_for
from talkmarks.errors import TalkError
from talkmarks.halls import Hall
from talkmarks.hands import Hand
from talkmarks.houses import hands_of, rooms_of
from talkmarks.likes import likes_of
from talkmarks.logs import is_log, joined_logs, lacking_in, vector_of
from talkmarks.messages import messages_of, taken_back
from talkmarks.packs import Pack
from talkmarks.reads import has_read, readers_of
from talkmarks.rows import rows_of

HANDS = hands_of(HOUSE)
DEEDS = ["say", "say", "answer", "answer", "change", "take_back", "like", "like", "see", "read", "hush", "hush"]


class Game:
    """A hall in which chance plays; the stamps for which bells rang are kept for each hand."""

    def __init__(self, seed):
        self.chance = random.Random(seed)
        self.hall = Hall(HOUSE)
        self.rung = {place: [] for place in HANDS}

    def log(self, place):
        return self.hall.hand_at(*place).heard()

    def message(self, place, own):
        stamps = [message[0] for message in messages_of(HOUSE, self.log(place)) if not own or message[3] == place[0]]
        return self.chance.choice(stamps) if stamps else (99, ("bob", 0))

    def what(self, place):
        message = self.message(place, False)
        return self.chance.choice([("room", self.chance.choice(["hall", "yard"])), ("under", message),
                                   ("under", message), ("person", self.chance.choice(EVERYBODY))])

    def do(self, place):
        """One deed at this hand; some are refused, as messages of rooms that aren't theirs are chosen, too."""
        chance = self.chance
        hand = self.hall.hand_at(*place)
        kind = chance.choice(DEEDS)
        room, saying = chance.choice(rooms_of(HOUSE, place[0])), chance.choice(SAYINGS)
        message = self.message(place, kind in ["change", "take_back"] and chance.randint(0, 5) > 0)
        return {"say": lambda: hand.say(room, saying), "answer": lambda: hand.say(room, saying, message),
                "change": lambda: hand.change(message, saying), "take_back": lambda: hand.take_back(message),
                "like": lambda: hand.like(message, chance.choice(["good", "bad"]), chance.randint(0, 2) > 0),
                "see": lambda: hand.see(message), "read": lambda: hand.read(room),
                "hush": lambda: hand.hush(self.what(place), chance.randint(0, 2) > 0)}[kind]()

    def tell(self, place):
        return self.hall.tell(self.chance.choice(HANDS), place, self.chance.choice([None, None, 0, 1, 2, 3, 5]))


def rung_or_read(log, name, stamp):
    if ("rung", stamp) in [deed[3] for deed in log if deed[1][0] == name]:
        return True
    return has_read(HOUSE, log, name, stamp)


class WholeTest(unittest.TestCase):
    def ring(self, game, place):
        log = game.log(place)
        due = [bell[0] for bell in Plain(log).bells(place[0])]
        stamps = game.hall.hand_at(*place).ring()
        self.assertEqual(stamps, due)
        self.assertEqual([stamp for stamp in stamps if rung_or_read(log, place[0], stamp)], [])
        game.rung[place].extend(stamps)
        self.assertEqual(len(game.rung[place]), len(set(game.rung[place])))
        self.assertEqual(game.hall.hand_at(*place).ring(), [])

    def grows(self, before, after):
        """All deeds are still there; what was read is still read, what was taken back still is."""
        self.assertTrue(is_log(HOUSE, after))
        self.assertLessEqual(set(before), set(after))
        self.assertLessEqual(set(taken_back(HOUSE, before)), set(taken_back(HOUSE, after)))
        still = {message[0] for message in messages_of(HOUSE, after)}
        for message in messages_of(HOUSE, before):
            if message[0] in still:
                self.assertLessEqual(set(readers_of(HOUSE, before, message[0])),
                                     set(readers_of(HOUSE, after, message[0])))

    def play(self, seed, steps):
        game = Game(seed)
        for k in range(steps):
            place = game.chance.choice(HANDS)
            logs = {other: game.log(other) for other in HANDS}
            way = game.chance.randint(0, 9)
            if way == 0:
                self.ring(game, place)
            elif way < 5:
                game.tell(place)
            elif isinstance(told(game.do, place)[0], type):
                # Where the first thing told is a class, it was refused.
                self.assertEqual(game.log(place), logs[place])
            self.assertEqual({other: game.log(other) for other in HANDS if other != place},
                             {other: logs[other] for other in HANDS if other != place})
            self.grows(logs[place], game.log(place))
        return game

    def all_hear_all(self, game):
        order = HANDS + HANDS
        game.chance.shuffle(order)
        for one in order + HANDS:
            for other in game.chance.sample(HANDS, len(HANDS)):
                game.hall.tell(one, other)

    def test_hands_that_have_heard_the_same_tell_the_same(self):
        for seed in range(25):
            game = self.play(seed, 120)
            self.all_hear_all(game)
            logs = [game.log(place) for place in HANDS]
            self.assertEqual(logs, [logs[0]] * len(HANDS))
            stamps = [deed[:2] for deed in logs[0]]
            shuffled = game.chance.sample(logs[0] + logs[0], 2 * len(logs[0]))
            for room in ["hall", "yard"]:
                shown = {game.hall.say_row(f"{name}{k} shows {room}") for name, k in HANDS if name != "bob"}
                self.assertEqual(len(shown), 1)
            # No deed is of this hand, so it can hear all at once, in whatever order.
            house = (HOUSE[0][:1] + (("bob", 2),) + HOUSE[0][2:], HOUSE[1])
            late = Hand(house, "bob", 1)
            self.assertEqual(late.hear(shuffled), len(logs[0]))
            self.assertEqual(late.heard(), logs[0])
            self.assertEqual(told_of_log(late.heard(), stamps), all_told(Pack(HOUSE, logs[3]), stamps))

    def test_what_is_told_hangs_on_the_deeds_alone(self):
        for seed in range(100, 115):
            game = self.play(seed, 110)
            for place in HANDS:
                log = game.log(place)
                plain = Plain(log)
                self.assertEqual(messages_of(HOUSE, log), plain.messages())
                self.assertEqual(taken_back(HOUSE, log), plain.backs())
                for room in ["hall", "yard"]:
                    self.assertEqual(rows_of(HOUSE, log, room), plain.rows(room))
                for message in plain.messages():
                    self.assertEqual(likes_of(HOUSE, log, message[0]), plain.likes(message[0]))
                    self.assertEqual(readers_of(HOUSE, log, message[0]), plain.readers(message[0]))
                for name in EVERYBODY:
                    self.assertEqual(totals_for(HOUSE, log, name), plain.totals(name))
                    self.assertEqual(bells_for(HOUSE, log, name), plain.bells(name))

    def test_what_is_taken_back_is_nowhere(self):
        met = 0
        for seed in range(200, 215):
            game = self.play(seed, 110)
            for place in HANDS:
                log = game.log(place)
                for stamp in taken_back(HOUSE, log):
                    met += 1
                    self.assertNotIn(stamp, [message[0] for message in messages_of(HOUSE, log)])
                    for room in rooms_of(HOUSE, "ann"):
                        self.assertNotIn(stamp, [row[1] for row in rows_of(HOUSE, log, room)])
                        self.assertNotIn(stamp, new_for(HOUSE, log, "ann", room))
                    for name in EVERYBODY:
                        self.assertNotIn(stamp, [bell[0] for bell in bells_for(HOUSE, log, name)])
                    self.assertTrue(issubclass(told(likes_of, HOUSE, log, stamp)[0], TalkError))
        self.assertGreater(met, 40)

    def test_what_stands_beneath_what_is_taken_back_keeps_its_place_and_depth(self):
        met = 0
        for seed in range(300, 330):
            game = self.play(seed, 90)
            place = game.chance.choice(HANDS)
            hand = game.hall.hand_at(*place)
            own = [message for message in messages_of(HOUSE, hand.heard()) if message[3] == place[0]]
            for message in own[:3]:
                rows = rows_of(HOUSE, hand.heard(), message[1])
                hand.take_back(message[0])
                self.assertEqual(rows_of(HOUSE, hand.heard(), message[1]),
                                 [row for row in rows if row[1] != message[0]])
                met += 1
        self.assertGreater(met, 20)

    def test_counts_are_those_of_a_walk_through_the_rows_shown(self):
        for seed in range(400, 412):
            game = self.play(seed, 110)
            for name, k in HANDS:
                words = []
                for room in rooms_of(HOUSE, name):
                    log = game.log((name, k))
                    shown = game.hall.say_row(f"{name}{k} shows {room}")
                    stamps = [row[1] for row in rows_of(HOUSE, log, room)]
                    self.assertEqual(len(shown.split("\n")) if shown != "none" else 0, len(stamps))
                    new = [stamp for stamp in stamps if not has_read(HOUSE, log, name, stamp)]
                    named = [stamp for stamp in new if Plain(log).is_named(name, stamp)]
                    words.append(f"{room} {len(new)} {len(named)}")
                self.assertEqual(game.hall.say_row(f"{name}{k} new"), "; ".join(words))

    def test_packs_of_hands_put_together(self):
        for seed in range(500, 515):
            game = self.play(seed, 110)
            one, two, three = [game.log(place) for place in game.chance.sample(HANDS, 3)]
            whole = joined_logs(one, joined_logs(two, three))
            stamps = [deed[:2] for deed in whole]
            pack = Pack(HOUSE, one).together(Pack(HOUSE, three)).together(Pack(HOUSE, two))
            self.assertEqual(pack.table(), Pack(HOUSE, whole).table())
            self.assertEqual(pack.vector(), vector_of(whole))
            self.assertEqual(all_told(pack, stamps), told_of_log(whole, stamps))
            # By a pack's vector, too, it can be told what it lacks.
            self.assertEqual(lacking_in(whole, pack.vector()), ())

    def test_the_same_played_again_is_told_the_same(self):
        for seed in [600, 601]:
            one, other = self.play(seed, 110), self.play(seed, 110)
            self.assertEqual([one.log(place) for place in HANDS], [other.log(place) for place in HANDS])
            self.assertEqual(one.rung, other.rung)

    def test_bells_ring_at_all_hands(self):
        games = [self.play(seed, 120) for seed in range(700, 712)]
        self.assertEqual([place for place in HANDS if not any(game.rung[place] for game in games)], [])


if __name__ == "__main__":
    unittest.main()
