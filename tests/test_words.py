import unittest

from loanpairs.base import words
from loanpairs.base.words import do_overlap, is_fields, is_integer, is_name, is_number_text, is_part
from loanpairs.errors import InvalidWord
from tests.helper import check_judge, check_raises, odd_values

KEYWORDS = "call copy def drop fields full lend look move new own put return skip take touch".split()


class Examples(unittest.TestCase):
    def test_example(self):
        told = [is_name("next"), is_name("call"), is_part(("next", "val"), "")]
        self.assertEqual(told, [True, False, True])
        self.assertEqual([do_overlap("", "val"), do_overlap("next", "val")], [True, False])

    def test_constants(self):
        self.assertEqual((words.MAX_LETTERS, words.MAX_FIELDS), (8, 4))
        self.assertEqual(words.KINDS, ("full", "look", "own"))
        self.assertEqual(words.KEYWORDS, tuple(KEYWORDS))

    def test_functions_are_defined_in_their_module(self):
        for function in (is_integer, is_name, is_fields, is_part, do_overlap):
            self.assertEqual(function.__module__, "loanpairs.base.words")


class Integers(unittest.TestCase):
    """[0.1] [0.5]"""

    def test_small_ones(self):
        for value in (0, 1, -1, 7, 10 ** 30, -(10 ** 30)):
            check_judge(self, is_integer, value, True)

    def test_sixty_digits(self):
        for value in (10 ** 59, 10 ** 60 - 1):
            check_judge(self, is_integer, value, True)
            check_judge(self, is_integer, -value, True)

    def test_more_than_sixty_digits(self):
        for value in (10 ** 60, 10 ** 60 + 1, 10 ** 61, 10 ** 100 - 1):
            check_judge(self, is_integer, value, False)
            check_judge(self, is_integer, -value, False)

    def test_true_and_false_are_none(self):
        check_judge(self, is_integer, True, False)
        check_judge(self, is_integer, False, False)

    def test_other_values(self):
        for value in odd_values():
            check_judge(self, is_integer, value, value.__class__ is int and value == -1)
        check_judge(self, is_integer, "1", False)


class NumberTexts(unittest.TestCase):
    """[0.1]: an integer has one text."""

    def test_texts(self):
        for value in ("0", "7", "10", "9" * 60, "1" + "0" * 59):
            check_judge(self, is_number_text, value, True)

    def test_no_texts(self):
        for value in ("", "00", "01", "-1", "+1", " 1", "1 ", "1a", "1q", "1_0", "\u0662", "9" * 61, "1" * 11000, 1, 0):
            check_judge(self, is_number_text, value, False)
        for value in odd_values():
            check_judge(self, is_number_text, value, value == "0")


class Names(unittest.TestCase):
    """[0.7] [0.5]"""

    def test_one_to_eight_letters(self):
        for value in ("a", "z", "az", "abcdefgh", "stuvwxyz", "ijklmnop", "qr"):
            check_judge(self, is_name, value, True)

    def test_wrong_lengths(self):
        for value in ("", "abcdefghi", "a" * 12000):
            check_judge(self, is_name, value, False)

    def test_other_signs(self):
        for code in range(32, 127):
            sign = chr(code)
            wanted = "a" <= sign <= "z"
            check_judge(self, is_name, sign, wanted)
            check_judge(self, is_name, "x" + sign, wanted)
            check_judge(self, is_name, sign + "x", wanted)
        for value in ("\n", "a\n", "\na", "\u00e4", "a\u00e4"):
            check_judge(self, is_name, value, False)

    def test_keywords(self):
        for word in KEYWORDS:
            check_judge(self, is_name, word, False)

    def test_near_keywords(self):
        for word in KEYWORDS:
            for near in (word + "s", word[:-1], "x" + word):
                if near not in KEYWORDS:
                    check_judge(self, is_name, near, len(near) <= 8)

    def test_other_values(self):
        for value in odd_values():
            check_judge(self, is_name, value, False)
        check_judge(self, is_name, ("a",), False)


class Fields(unittest.TestCase):
    """[0.7] [0.5]"""

    def test_one_to_four_names(self):
        for many in range(1, 5):
            check_judge(self, is_fields, ("a", "next", "val", "abcdefgh")[:many], True)

    def test_wrong_numbers_of_names(self):
        check_judge(self, is_fields, (), False)
        check_judge(self, is_fields, ("a", "b", "c", "d", "e"), False)

    def test_names_twice(self):
        check_judge(self, is_fields, ("a", "a"), False)
        check_judge(self, is_fields, ("a", "b", "c", "a"), False)

    def test_other_items(self):
        for value in odd_values() + [""] + KEYWORDS:
            check_judge(self, is_fields, (value,), False)
            check_judge(self, is_fields, ("a", value), False)
            check_judge(self, is_fields, (value, "a"), False)

    def test_other_values(self):
        for value in odd_values() + ["a", "next", ["a", "b"], {"a": 1, "b": 2}]:
            check_judge(self, is_fields, value, False)


class Parts(unittest.TestCase):
    """[0.7] [0.4] [0.5]"""

    def test_the_whole_and_fields_are_parts(self):
        fields = ("next", "val")
        for value in ("", "next", "val"):
            check_judge(self, lambda value: is_part(fields, value), value, True)

    def test_other_names_are_none(self):
        for value in ("a", "nex", "next.val", "next ", " ", "call"):
            check_judge(self, lambda value: is_part(("next", "val"), value), value, False)

    def test_other_values(self):
        for value in odd_values() + [("next",), ["next"], (), 0]:
            check_judge(self, lambda value: is_part(("next", "val"), value), value, False)

    def test_wrong_fields(self):
        for fields in odd_values() + ["next", (), ["next"], ("a", "a"), ("a", "b", "c", "d", "e"), ("call",)]:
            for value in ("", "next", None, fields):
                check_raises(self, InvalidWord, is_part, fields, value)


class Overlaps(unittest.TestCase):
    """[0.7] [0.4]"""

    def test_equal_parts(self):
        for part in ("", "a", "next"):
            self.assertIs(do_overlap(part, part), True)

    def test_the_whole_overlaps_in_both_orders(self):
        self.assertIs(do_overlap("", "next"), True)
        self.assertIs(do_overlap("next", ""), True)

    def test_different_fields_do_not(self):
        for one, other in (("a", "b"), ("next", "val"), ("a", "ab")):
            self.assertIs(do_overlap(one, other), False)
            self.assertIs(do_overlap(other, one), False)

    def test_what_is_no_part(self):
        for value in odd_values() + KEYWORDS + ["abcdefghi", 0, (), b"a"]:
            check_raises(self, InvalidWord, do_overlap, value, "a")
            check_raises(self, InvalidWord, do_overlap, "a", value)
            check_raises(self, InvalidWord, do_overlap, "", value)
            check_raises(self, InvalidWord, do_overlap, value, "")
            check_raises(self, InvalidWord, do_overlap, value, value)
