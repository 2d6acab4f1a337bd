import inspect
import unittest

from talkmarks import bells, counts, deeds, houses, hushes, likes, logs, messages, names, reads, rows, wording
from talkmarks.halls import Hall
from talkmarks.hands import Hand
from talkmarks.packs import Pack

ARGUMENTS = {
    names: {"is_name": ["thing"], "is_saying": ["thing"], "names_in": ["saying", "people"]},
    houses: {"is_house": ["thing"], "house_of": ["people", "rooms"], "is_hand": ["house", "thing"],
             "hands_of": ["house"], "rooms_of": ["house", "name"], "members_of": ["house", "room"]},
    deeds: {"is_stamp": ["house", "thing"], "is_vector": ["house", "thing"], "is_act": ["house", "thing"],
            "is_deed": ["house", "thing"], "stamp_of": ["deed"], "is_within": ["deed", "vector"]},
    logs: {"is_log": ["house", "thing"], "vector_of": ["log"], "lacking_in": ["log", "vector"],
           "parcel_of": ["log", "vector", "many"], "joined_logs": ["one", "other"]},
    messages: {"messages_of": ["house", "log"], "taken_back": ["house", "log"],
               "message_at": ["house", "log", "stamp"]},
    rows: {"rows_of": ["house", "log", "room"]},
    likes: {"likes_of": ["house", "log", "stamp"]},
    hushes: {"hushes_of": ["log", "name"]},
    reads: {"has_read": ["house", "log", "name", "stamp"], "readers_of": ["house", "log", "stamp"]},
    counts: {"new_for": ["house", "log", "name", "room"], "named_for": ["house", "log", "name", "room"],
             "first_new": ["house", "log", "name", "room"], "totals_for": ["house", "log", "name"]},
    bells: {"bells_for": ["house", "log", "name"]},
    wording: {"show_stamp": ["stamp"], "read_stamp": ["house", "text"]},
}

METHODS = {
    Pack: {"__init__": "(self, house, log)", "table": "(self)", "vector": "(self)", "together": "(self, other)",
           "messages": "(self)", "rows": "(self, room)", "likes": "(self, stamp)", "has_read": "(self, name, stamp)",
           "new_to": "(self, name, room)", "totals": "(self, name)", "bells": "(self, name)"},
    Hand: {"__init__": "(self, house, name, k)", "heard": "(self)", "say": "(self, room, saying, under=None)",
           "change": "(self, message, saying)", "take_back": "(self, message)",
           "like": "(self, message, sort, on=True)", "see": "(self, message)", "read": "(self, room)",
           "hush": "(self, what, on=True)", "hear": "(self, deeds)", "ring": "(self)"},
    Hall: {"__init__": "(self, house)", "hand_at": "(self, name, k)", "tell": "(self, one, other, many=None)",
           "say_row": "(self, row)"},
}


class InterfaceTest(unittest.TestCase):
    def test_names_and_arguments(self):
        for module, functions in ARGUMENTS.items():
            for name, arguments in functions.items():
                with self.subTest(module=module.__name__, name=name):
                    self.assertEqual(list(inspect.signature(getattr(module, name)).parameters), arguments)

    def test_methods_and_arguments(self):
        for kind, methods in METHODS.items():
            for name, arguments in methods.items():
                with self.subTest(kind=kind.__name__, name=name):
                    self.assertEqual(str(inspect.signature(getattr(kind, name))), arguments)


if __name__ == "__main__":
    unittest.main()
