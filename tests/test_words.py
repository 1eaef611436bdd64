"""Points 2, 4 and 5: NAMEs, rows, words, and the backs of places."""

import unittest

from tests.helper import SMALL_WORDS, great_words, is_plain_name, no_numbers, odd_things, plain_backs, refused, spoilt
from woundwalks.errors import NoPlace
from woundwalks.winding import course, is_wound
from woundwalks.words import backs, is_row, is_word


class TestRows(unittest.TestCase):
    def test_how_many_names(self):
        for size, row, word in ((0, True, True), (1, True, True), (11, True, True), (12, True, True),
                                (13, True, False), (399, True, False), (400, True, False), (401, False, False)):
            for name in ("a", "z", "zzzzzz"):
                self.assertIs(is_row((name,) * size), row, size)
                self.assertIs(is_word((name,) * size), word, size)

    def test_how_many_letters(self):
        for many, told in ((0, False), (1, True), (2, True), (6, True), (7, False), (20000, False)):
            for letter in "amz":
                self.assertIs(is_row((letter * many,)), told, many)
                self.assertIs(is_word(("a", letter * many, "b")), told, many)

    def test_each_sign_in_each_spot(self):
        for sign in [chr(code) for code in range(32, 127)] + ["\n"]:
            told = sign in "abcdefghijklmnopqrstuvwxyz"
            for name in (sign, "a" + sign, sign + "a", "aa" + sign + "aa", "abcde" + sign):
                self.assertIs(is_row((name,)), told, name)
                self.assertIs(is_word((name,)), told, name)

    def test_names_that_look_like_numbers_or_truths(self):
        self.assertIs(is_row(("true", "none", "so")), True)
        self.assertIs(is_row(("True",)), False)
        self.assertIs(is_row(("1",)), False)

    def test_one_wrong_name_among_many(self):
        for at in (0, 200, 399):
            for wrong in odd_things() + ["", "A", "abcdefg", ("a",), ["a"]]:
                if is_plain_name(wrong):
                    continue
                row = ("a",) * at + (wrong,) + ("a",) * (399 - at)
                self.assertIs(is_row(row), False)
                self.assertIs(is_word(row[at:at + 12]), False)

    def test_of_anything(self):
        for thing in spoilt(("a", "bc", "abcdef")):
            told = type(thing) is tuple and len(thing) <= 400 and all(is_plain_name(part) for part in thing)
            self.assertIs(is_row(thing), told)
            self.assertIs(is_word(thing), told and len(thing) <= 12)
        for thing in (["a"], "a", "abc", {"a": 1}, {"a"}, frozenset(("a",)), b"a", ("a", ("b",)), (("a",),), iter("a")):
            self.assertIs(is_row(thing), False)
            self.assertIs(is_word(thing), False)


class TestBacks(unittest.TestCase):
    def test_told_ones(self):
        self.assertEqual(backs((), 0), ())
        word = ("a", "b", "a", "b", "a")
        self.assertEqual([backs(word, place) for place in range(6)], [(), (), (), (1,), (2,), (1, 3)])
        self.assertEqual(backs(("a",) * 12, 12), tuple(range(1, 12)))
        self.assertEqual(backs(("a",) * 12, 1), ())
        self.assertEqual(backs(tuple("abcdefghijkl"), 12), ())
        self.assertEqual(backs(("a", "aa", "a", "aa"), 4), (2,))

    def test_all_places(self):
        for word in list(SMALL_WORDS) + great_words():
            for place in range(len(word) + 1):
                told = backs(word, place)
                self.assertIs(type(told), tuple)
                self.assertEqual(list(told), plain_backs(word, place))

    def test_no_place(self):
        for word in ((), ("a",), ("a", "b", "a"), tuple("abcabcabcabc")):
            for thing in no_numbers(len(word) + 1) + [-1, -len(word) - 1, len(word) + 1, True, "1", [1], (1,)]:
                refused(self, NoPlace, thing, backs, word, thing)
                for row in ((), ("a",), word, ("x",) * 400, ("a",) * 400):
                    refused(self, NoPlace, thing, course, word, row, place=thing)
                    refused(self, NoPlace, thing, is_wound, word, row, place=thing)

    def test_by_names(self):
        self.assertEqual(backs(place=3, word=("a", "b", "a")), (1,))
        self.assertIs(is_row(thing=("a",)), True)
        self.assertIs(is_word(thing=("a",)), True)


if __name__ == "__main__":
    unittest.main()
