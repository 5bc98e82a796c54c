import unittest

from homequay.words import is_group_name, is_name, is_whole, is_within, number_of
from tests.things import any_things


class WholeNumbersTest(unittest.TestCase):
    def test_whole_numbers(self):
        for number in (0, 1, -1, 10 ** 29, -(10 ** 29)):
            self.assertIs(is_whole(number), True)

    def test_truths_are_no_whole_numbers(self):
        self.assertIs(is_whole(True), False)
        self.assertIs(is_whole(False), False)

    def test_other_things_are_none(self):
        for thing in any_things():
            self.assertIs(is_whole(thing), thing.__class__ is int, thing)

    def test_both_bounds_are_within(self):
        self.assertEqual([is_within(number, 3, 5) for number in (2, 3, 4, 5, 6)], [False, True, True, True, False])
        self.assertIs(is_within(-2, -2, -2), True)
        self.assertIs(is_within(-1, -2, -2), False)
        self.assertIs(is_within(4, 5, 3), False)
        self.assertIs(is_within(10 ** 29, 0, 10 ** 29), True)

    def test_truths_and_other_things_are_not_within(self):
        self.assertIs(is_within(True, 0, 5), False)
        self.assertIs(is_within(False, 0, 5), False)
        for thing in any_things():
            expected = thing.__class__ is int and -5 <= thing <= 5
            self.assertIs(is_within(thing, -5, 5), expected, thing)


class NamesTest(unittest.TestCase):
    def test_lengths_of_names(self):
        self.assertEqual([is_name("a" * many) for many in (0, 1, 8, 9)], [False, True, True, False])
        self.assertEqual([is_group_name("a" * many) for many in (0, 1, 12, 13)], [False, True, True, False])

    def test_every_sign_at_each_place(self):
        letters = "abcdefghijklmnopqrstuvwxyz"
        for sign in [chr(code) for code in range(32, 127)] + ["\n", "\t"]:
            self.assertIs(is_name(sign), sign in letters, sign)
            self.assertIs(is_group_name(sign), sign in letters, sign)
            for word in ("a" + sign, "a" + sign + "b"):
                self.assertIs(is_name(word), sign in letters + "0123456789", word)
                self.assertIs(is_group_name(word), sign in letters + "0123456789.", word)

    def test_names(self):
        for name in ("a", "z", "quay", "a0", "z9", "a1b2c3d4"):
            self.assertIs(is_name(name), True)
            self.assertIs(is_group_name(name), True)

    def test_names_of_groups_alone(self):
        for name in ("a.", "quay.3", "a..b", "abcdefghi", "a...........", "abcdefgh.123"):
            self.assertIs(is_name(name), False)
            self.assertIs(is_group_name(name), True)

    def test_what_is_no_name(self):
        for word in ("", " a", "a ", "a b", "1a", ".a", "Quay", "quaY", "a_b", "a-b", "a\n", "\u00e9", "a\u0663"):
            self.assertIs(is_name(word), False, word)
            self.assertIs(is_group_name(word), False, word)

    def test_things_of_other_kinds_are_no_names(self):
        for thing in any_things():
            expected = thing in ("a", "nobody")
            self.assertIs(is_name(thing), expected, thing)
            self.assertIs(is_group_name(thing), expected, thing)
        self.assertIs(is_name(["a"]), False)
        self.assertIs(is_name(("a",)), False)


class FiguresTest(unittest.TestCase):
    def test_figures_of_one_to_five_signs(self):
        for word, number in (("0", 0), ("7", 7), ("9", 9), ("10", 10), ("305", 305), ("1000", 1000), ("9999", 9999)):
            self.assertEqual(number_of(word), number)
            self.assertIs(number_of(word).__class__, int)
        self.assertIsNone(number_of("10000"))
        self.assertIsNone(number_of(""))

    def test_a_nought_or_a_sign_ahead(self):
        for word in ("00", "01", "000", "0000", "0999", "+1", "-1", "-0", " 1", "1 ", "1_0", "1.", "1\n", "a", "1a", "\u0663"):
            self.assertIsNone(number_of(word), word)

    def test_every_sign(self):
        for sign in [chr(code) for code in range(32, 127)] + ["\n", "\t"]:
            figure = sign in "0123456789"
            self.assertEqual(number_of(sign), int(sign) if figure else None, sign)
            self.assertEqual(number_of("1" + sign), 10 + int(sign) if figure else None, sign)

    def test_every_number_up_to_the_bound(self):
        for number in range(10000):
            self.assertEqual(number_of(str(number)), number)

    def test_things_of_other_kinds(self):
        for thing in any_things():
            self.assertEqual(number_of(thing), 0 if thing == "0" else None, thing)
        self.assertIsNone(number_of(["1"]))
        self.assertIsNone(number_of(("1",)))


if __name__ == "__main__":
    unittest.main()
