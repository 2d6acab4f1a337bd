import unittest

from samples import ANN, ANN1, BOB, CY2, HOUSE, NOTHINGS
from talkmarks.errors import NoRow, TalkError
from talkmarks.houses import hands_of
from talkmarks.wording import read_stamp, show_stamp

TIMES = [1, 2, 9, 10, 11, 12, 99, 100, 101, 1000, 123456789012, 999999999999]
NO_STAMPS = [
    "", " ", "0", "1", "12", "ann", "ann0", "12ann", "ann012", "ann0 12", "12 ann0", " 12ann0", "12ann0 ",
    "0ann0", "00ann0", "01ann0", "012ann0", "000000000001ann0", "1234567890123ann0", "1000000000000ann0",
    "0123456789012ann0", "12ann00", "12ann01", "12ann2", "12ann3", "12ann10", "12bob1", "12cy3", "12dan0", "12an0",
    "12anna0", "12Ann0", "12ANN0", "+12ann0", "-12ann0", "1_2ann0", "1.0ann0", "12ann-0", "12ann+0", "12ann 0",
    "12ann0\n", "\n12ann0", "12\nann0", "\t12ann0", "12ann0\t", "12ann0x", "x12ann0", "12ann0ann0", "1212",
    "12ann0bob0", "12abcdefgh0", "12abcdefghi0", "(12, ('ann', 0))", "12ann" + "0" * 20, "9" * 200 + "ann0"]


class ShowTest(unittest.TestCase):
    def test_time_name_and_number(self):
        self.assertEqual(show_stamp((12, ANN)), "12ann0")
        self.assertEqual(show_stamp((1, ANN1)), "1ann1")
        self.assertEqual(show_stamp((7, BOB)), "7bob0")
        self.assertEqual(show_stamp((999999999999, CY2)), "999999999999cy2")
        self.assertEqual(show_stamp((10, ("abcdefgh", 2))), "10abcdefgh2")


class ReadTest(unittest.TestCase):
    def test_time_name_and_number(self):
        self.assertEqual(read_stamp(HOUSE, "12ann0"), (12, ANN))
        self.assertEqual(read_stamp(HOUSE, "1ann1"), (1, ANN1))
        self.assertEqual(read_stamp(HOUSE, "999999999999cy2"), (999999999999, CY2))

    def test_what_is_shown_is_read(self):
        for time in TIMES:
            for hand in hands_of(HOUSE):
                self.assertEqual(read_stamp(HOUSE, show_stamp((time, hand))), (time, hand))

    def refused(self, text):
        with self.assertRaises(TalkError) as caught:
            read_stamp(HOUSE, text)
        self.assertIs(type(caught.exception), NoRow, repr(text)[:100])

    def test_no_stamps(self):
        for text in NO_STAMPS:
            self.refused(text)

    def test_signs_that_are_no_figures(self):
        for sign in [chr(k) for k in range(32, 127) if not 48 <= k <= 57] + ["\t", "\n"]:
            for ahead, behind in [("", "1ann0"), ("1", "ann0"), ("1", "2ann0"), ("1ann", ""), ("1ann", "0"),
                                  ("1ann0", "")]:
                self.refused(ahead + sign + behind)

    def test_no_texts(self):
        for thing in NOTHINGS + [(12, ANN), [12, ANN], ["12ann0"], ("12ann0",), 12]:
            self.refused(thing)

    def test_of_its_own_house(self):
        house = ((("abcdefgh", 3), ("x", 1)), (("hall", ("x",)),))
        self.assertEqual(read_stamp(house, "5abcdefgh2"), (5, ("abcdefgh", 2)))
        self.assertEqual(read_stamp(house, "5x0"), (5, ("x", 0)))
        for text in ["5ann0", "5abcdefgh3", "5x1", "5abcdefg0"]:
            with self.assertRaises(NoRow):
                read_stamp(house, text)

    def test_each_figure_of_a_time_counts(self):
        for figure in "123456789":
            for many in range(12):
                self.assertEqual(read_stamp(HOUSE, figure + "0" * many + "bob0"), (int(figure) * 10 ** many, BOB))
            self.refused(figure + "0" * 12 + "bob0")


if __name__ == "__main__":
    unittest.main()
