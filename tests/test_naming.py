"""Points 2, 3 and 13: names."""

import unittest

from bundlekinds.naming import valid_name

SMALL = "abcdefghijklmnopqrstuvwxyz"
DIGITS = "0123456789"
# The characters that strings of callers may have (point 2).
SIGNS = [chr(code) for code in range(32, 127) if chr(code) != "%"] + ["\n"]


class ValidName(unittest.TestCase):
    def check(self, names, expected):
        for name in names:
            with self.subTest(name=name):
                self.assertIs(valid_name(name), expected)

    def test_the_example(self):
        names = ["tea", "x1", "1x", "Tea", "teapots"]
        self.assertEqual([valid_name(name) for name in names], [True, True, False, False, False])

    def test_lengths_from_1_to_6_are_names(self):
        self.check(["a", "ab", "abc", "abcd", "abcde", "abcdef", "z99999"], True)

    def test_the_empty_string_and_longer_ones_are_none(self):
        self.check(["", "abcdefg", "a123456", "a" * 1000], False)

    def test_only_a_small_letter_comes_first(self):
        for sign in SIGNS:
            self.check([sign, sign + "a", sign + "bcdef"], sign in SMALL)

    def test_only_small_letters_and_digits_follow(self):
        for sign in SIGNS:
            self.check(["a" + sign, "ab" + sign + "c", "abcde" + sign], sign in SMALL + DIGITS)

    def test_a_newline_or_blank_at_either_end_is_refused(self):
        self.check(["tea\n", "\ntea", "tea ", " tea", "t a", "\n", " ", "a\n\n"], False)

    def test_upper_case_letters_are_refused(self):
        self.check(["Tea", "tEa", "teA", "T", "TEA"], False)

    def test_other_signs_are_refused(self):
        self.check(["_a", "a_b", "a-b", "-", "a.b", "a,b", "a/b", "a:b", "a;", "(a)", "a'", 'a"', "a{", "a`"], False)

    def test_the_argument_may_be_passed_by_name(self):
        self.assertIs(valid_name(text="tea"), True)
        self.assertIs(valid_name(text="te a"), False)

    def test_a_name_of_a_keyword_or_builtin_is_a_name(self):
        self.check(["main", "if", "none", "true", "list"], True)


if __name__ == "__main__":
    unittest.main()
