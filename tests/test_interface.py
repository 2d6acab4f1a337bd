import inspect
import unittest

from talkmarks import bells, counts, deeds, houses, hushes, likes, logs, messages, names, reads, rows

ARGUMENTS = {
    names: {"is_name": ["thing"], "is_saying": ["thing"], "names_in": ["saying", "people"]},
    houses: {"is_house": ["thing"], "house_of": ["people", "rooms"], "is_hand": ["house", "thing"],
             "hands_of": ["house"], "rooms_of": ["house", "name"], "members_of": ["house", "room"]},
    deeds: {"is_stamp": ["house", "thing"], "is_vector": ["house", "thing"], "is_act": ["house", "thing"],
            "is_deed": ["house", "thing"], "stamp_of": ["deed"], "is_within": ["deed", "vector"]},
    logs: {"is_log": ["house", "thing"], "vector_of": ["log"], "lacking_in": ["log", "vector"],
           "parcel_of": ["log", "vector", "many"], "joined_logs": ["one", "other"]},
    messages: {"messages_of": ["house", "log"], "taken_back": ["house", "log"],
               "message_at": ["house", "log", "stamp"]},
    rows: {"rows_of": ["house", "log", "room"]},
    likes: {"likes_of": ["house", "log", "stamp"]},
    hushes: {"hushes_of": ["log", "name"]},
    reads: {"has_read": ["house", "log", "name", "stamp"], "readers_of": ["house", "log", "stamp"]},
    counts: {"new_for": ["house", "log", "name", "room"], "named_for": ["house", "log", "name", "room"],
             "first_new": ["house", "log", "name", "room"], "totals_for": ["house", "log", "name"]},
    bells: {"bells_for": ["house", "log", "name"]},
}


class InterfaceTest(unittest.TestCase):
    def test_names_and_arguments(self):
        for module, functions in ARGUMENTS.items():
            for name, arguments in functions.items():
                with self.subTest(module=module.__name__, name=name):
                    self.assertEqual(list(inspect.signature(getattr(module, name)).parameters), arguments)


if __name__ == "__main__":
    unittest.main()
