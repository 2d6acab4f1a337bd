import unittest

from talkmarks import errors

PLAIN = ["NoHouse", "NoRoom", "NoMessage", "NotYours", "NoSaying", "NoName", "NoWhat", "NoDeed", "Strange", "NoRow"]
PLACED = ["Clash", "Gap"]


class ErrorsTest(unittest.TestCase):
    def test_talk_error_is_a_value_error(self):
        self.assertEqual(errors.TalkError.__bases__, (ValueError,))

    def test_each_class_stands_straight_under_talk_error(self):
        for name in PLAIN + PLACED:
            with self.subTest(name):
                self.assertEqual(getattr(errors, name).__bases__, (errors.TalkError,))

    def test_no_class_stands_under_another_one(self):
        classes = [getattr(errors, name) for name in PLAIN + PLACED]
        for one in classes:
            for other in classes:
                self.assertEqual(issubclass(one, other), one is other)

    def test_plain_refusals_are_caught_as_talk_errors(self):
        for name in PLAIN:
            with self.subTest(name), self.assertRaises(errors.TalkError):
                raise getattr(errors, name)("why")

    def test_clash_and_gap_have_hand_and_number(self):
        for name in PLACED:
            with self.subTest(name):
                with self.assertRaises(errors.TalkError) as caught:
                    raise getattr(errors, name)(("ann", 1), 7)
                self.assertEqual(caught.exception.hand, ("ann", 1))
                self.assertEqual(caught.exception.number, 7)

    def test_fields_belong_to_each_object(self):
        one = errors.Clash(("ann", 0), 0)
        other = errors.Clash(("bob", 0), 3)
        self.assertEqual((one.hand, one.number, other.hand, other.number), (("ann", 0), 0, ("bob", 0), 3))


if __name__ == "__main__":
    unittest.main()
