import unittest

from samples import NOTHINGS
from talkmarks.names import is_name, is_saying, names_in

SIGNS = "".join([chr(k) for k in range(32, 127)])


class IsNameTest(unittest.TestCase):
    def test_one_to_eight_small_letters(self):
        for name in ["a", "z", "m", "ann", "bobby", "az", "abcdefgh", "zzzzzzzz"]:
            self.assertIs(is_name(name), True, name)

    def test_no_letter_and_nine(self):
        self.assertIs(is_name(""), False)
        self.assertIs(is_name("abcdefghi"), False)
        self.assertIs(is_name("a" * 100), False)

    def test_every_sign_but_small_letters_is_refused_at_each_place(self):
        for sign in SIGNS + "\t\n\r":
            small = "a" <= sign <= "z"
            for text in [sign, sign + "bc", "b" + sign + "c", "bc" + sign]:
                self.assertIs(is_name(text), small, repr(text))

    def test_of_anything(self):
        for thing in NOTHINGS + [["a"], ("a",), ("a", "b"), [["a"]]]:
            self.assertIs(is_name(thing), False, repr(thing)[:80])


class IsSayingTest(unittest.TestCase):
    def test_one_to_sixty_signs(self):
        for saying in ["h", " ", "~", "!", "hi @ann, @bobby", "x" * 59, "x" * 60, " " * 60, "~" * 60, "12", "A Z"]:
            self.assertIs(is_saying(saying), True, repr(saying))

    def test_no_sign_and_sixty_one(self):
        self.assertIs(is_saying(""), False)
        self.assertIs(is_saying("x" * 61), False)
        self.assertIs(is_saying("x" * 200), False)

    def test_each_sign_from_the_blank_to_the_tilde(self):
        for sign in SIGNS.replace("%", ""):
            for text in [sign, sign + "x", "x" + sign, "x" + sign + "x"]:
                self.assertIs(is_saying(text), True, repr(text))

    def test_signs_beyond_at_each_place(self):
        for sign in ["\t", "\n", "\r", chr(31), chr(127), chr(0), chr(160)]:
            for text in [sign, sign + "x", "x" + sign, "x" + sign + "x"]:
                self.assertIs(is_saying(text), False, repr(text))

    def test_of_anything(self):
        for thing in NOTHINGS + [["hi"], ("hi",), ["h", "i"], ("h", "i")]:
            self.assertIs(is_saying(thing), False, repr(thing)[:80])


class NamesInTest(unittest.TestCase):
    def test_the_document_s_own(self):
        self.assertEqual(names_in("hi @ann, @bobby", ("ann", "bob", "bobby")), ["ann", "bobby"])

    def test_nobody_is_named(self):
        for saying in ["ann", "hi", "@", "@@", "@ ann", "ann@", "@Ann", "@anN", "@an", "@ an n", "@a-nn"]:
            self.assertEqual(names_in(saying, ("ann", "bob")), [], saying)

    def test_what_may_stand_around_a_name(self):
        for saying in ["@ann", "x@ann", "@@ann", "hi @ann", "@ann ", "@ann.", "@ann@", "@ann1", "@annA", "@ann`",
                       "@ann{", "@ann~", "@ann-bob", "@annx @ann", "@ann @annx", "@@@ann", "@an@ann", "A@ann!"]:
            self.assertEqual(names_in(saying, ("ann",)), ["ann"], saying)

    def test_a_small_letter_behind_makes_another_name(self):
        for letter in "abmyz":
            self.assertEqual(names_in("@ann" + letter, ("ann",)), [], letter)
            self.assertEqual(names_in("@ann" + letter + " x", ("ann",)), [], letter)
        self.assertEqual(names_in("@annann", ("ann",)), [])

    def test_names_that_begin_alike(self):
        people = ("b", "bo", "bob", "bobb", "bobby")
        for name in people:
            self.assertEqual(names_in("@" + name, people), [name])
            self.assertEqual(names_in("so @" + name + ", no", people), [name])

    def test_rising_and_each_once(self):
        self.assertEqual(names_in("@cy @ann @bob @ann", ["cy", "bob", "ann"]), ["ann", "bob", "cy"])
        self.assertEqual(names_in("@bob@ann@cy", ("bob", "cy", "ann", "bob", "ann")), ["ann", "bob", "cy"])

    def test_only_those_of_the_people(self):
        self.assertEqual(names_in("@ann @bob", ["bob"]), ["bob"])
        self.assertEqual(names_in("@ann @bob", []), [])
        self.assertEqual(names_in("@ann @bob", ()), [])

    def test_shortest_and_longest_names(self):
        self.assertEqual(names_in("@a @abcdefgh @abcdefghi", ("a", "abcdefgh")), ["a", "abcdefgh"])
        self.assertEqual(names_in("@abcdefghi", ("a", "abcdefgh")), [])

    def test_people_stay_as_they_were_and_the_list_is_the_asker_s(self):
        people = ["cy", "ann", "ann"]
        told = names_in("@ann @cy", people)
        self.assertEqual(people, ["cy", "ann", "ann"])
        told.append("bob")
        self.assertEqual(people, ["cy", "ann", "ann"])
        self.assertEqual(names_in("@ann @cy", people), ["ann", "cy"])
        everyone = ["ann", "cy"]
        self.assertIsNot(names_in("@ann @cy", everyone), everyone)


if __name__ == "__main__":
    unittest.main()
