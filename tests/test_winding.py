"""Points 3 (f), 6 and 7: courses, wound rows, how many there are, the so-manieth."""

import itertools
import random
import unittest

from tests.helper import (
    SMALL_WORDS, Counted, great_words, least_course, no_numbers, plain_backs, plain_courses, refused, rows_of)
from woundwalks.errors import NoNumber, NoPlace, TooMany
from woundwalks.winding import count_wound, course, is_wound, wound_at, wound_rows


def plain_wound(word, size):
    """All wound rows of a size, by trying all rows."""
    return [row for row in itertools.product(sorted(set(word)), repeat=size) if plain_courses(word, row, 0)]


def long_rows(rng, word):
    """Rows of 400 names: wound ones where there are any, one that goes on as long as chance lets it, any one."""
    many = count_wound(word, 400)
    rows = [wound_at(word, 400, number) for number in {0, many // 2, many - 1} if 0 <= number < many]
    names, place = [], 0
    while len(names) < 400:
        choices = [at for at in [place] + plain_backs(word, place) if at < len(word)]
        if not choices:
            break
        at = rng.choice(choices)
        names.append(word[at])
        place = at + 1
    return rows + [tuple(names), tuple(rng.choice(word) for _ in range(400))]


class TestCourse(unittest.TestCase):
    def test_told_ones(self):
        self.assertEqual(course(("a", "b", "a"), ("a", "b", "a", "b", "a")), (0, 1, 2, 1, 2))
        self.assertEqual(course(("a", "a", "b"), ("a", "a", "a", "b")), (0, 1, 1, 2))
        self.assertEqual(course(("a", "b"), ("a", "b")), (0, 1))
        self.assertIsNone(course(("a", "b"), ("a", "b", "b")))
        self.assertIsNone(course(("a", "b"), ("a",)))
        self.assertIsNone(course(("a", "b"), ("b",)))
        self.assertEqual(course(("a", "b"), ("b",), place=1), (1,))

    def test_the_row_of_no_names(self):
        for word in SMALL_WORDS:
            for place in range(len(word) + 1):
                self.assertEqual(course(word, (), place=place), () if place == len(word) else None)
                self.assertIs(is_wound(word, (), place=place), place == len(word))
        self.assertIsNone(course((), ("a",)))
        self.assertIs(is_wound((), ("a",)), False)

    def test_against_all_courses(self):
        for word in SMALL_WORDS:
            rows = [row for row in rows_of(sorted(set(word)), 5)] + [word + ("x",), ("x",) + word, ("x",)]
            for row, place in itertools.product(rows, range(len(word) + 1)):
                told = min(plain_courses(word, row, place), default=None)
                self.assertEqual(course(word, row, place=place), told, (word, row, place))
                self.assertIs(is_wound(word, row, place=place), told is not None)
                self.assertEqual(least_course(word, row, place), told)

    def test_rows_of_400_names(self):
        rng = random.Random(6)
        ended = 0
        for word in great_words():
            for row in long_rows(rng, word):
                for start in (0, 1, len(word) // 2, len(word)):
                    told = course(word, row, place=start)
                    self.assertEqual(told, least_course(word, row, start))
                    self.assertIs(is_wound(word, row, place=start), told is not None)
                    ended += told is not None and len(told) == 400
        self.assertGreater(ended, 50)
        self.assertEqual(course(("a",) * 12, ("a",) * 400), (0,) + (1,) * 389 + tuple(range(2, 12)))
        self.assertIsNone(course(("a",) * 12, ("a",) * 399 + ("b",)))

    def test_place_by_its_name_alone(self):
        for call in (course, is_wound):
            with self.assertRaises(TypeError):
                call(("a",), ("a",), 0)
        self.assertEqual(course(row=("b",), place=1, word=("a", "b")), (1,))
        self.assertIs(is_wound(place=1, row=("b",), word=("a", "b")), True)

    def test_places_are_refused_ahead_of_all(self):
        for row in ((), ("x",), ("a", "b")):
            refused(self, NoPlace, 3, course, ("a", "b"), row, place=3)
            refused(self, NoPlace, False, is_wound, ("a", "b"), row, place=False)


class TestCounts(unittest.TestCase):
    def test_small_words_against_all_rows(self):
        for word in SMALL_WORDS:
            for size in range(7):
                rows = plain_wound(word, size)
                self.assertEqual(count_wound(word, size), len(rows), (word, size))
                self.assertEqual(wound_rows(word, size), tuple(rows))
                self.assertEqual([wound_at(word, size, number) for number in range(len(rows))], rows)
                refused(self, NoNumber, len(rows), wound_at, word, size, len(rows))

    def test_names_of_several_letters_rise_as_python_sorts(self):
        word = ("b", "a", "ba", "b", "aa", "b")
        for size in range(11):
            rows = plain_wound(word, size) if size < 7 else wound_rows(word, size)
            self.assertEqual(list(wound_rows(word, size)), sorted(set(rows)))
            self.assertEqual(len(rows), Counted(word, size).count(size))

    def test_no_names(self):
        for word in great_words():
            self.assertEqual(count_wound(word, 0), 0)
            self.assertEqual(wound_rows(word, 0), ())
            refused(self, NoNumber, 0, wound_at, word, 0, 0)
        self.assertEqual((count_wound((), 0), wound_rows((), 0), wound_at((), 0, 0)), (1, ((),), ()))
        self.assertEqual((count_wound((), 1), wound_rows((), 400)), (0, ()))
        refused(self, NoNumber, 0, wound_at, (), 400, 0)

    def test_great_words_and_400_names(self):
        most = 0
        for word in great_words():
            counted = Counted(word, 400)
            for size in (1, 11, 12, 13, 23, 24, 100, 399, 400):
                self.assertEqual(count_wound(word, size), counted.count(size), (word, size))
            many = counted.count(400)
            most = max(most, many)
            for number in sorted({0, 1, many // 3, many // 2, many - 2, many - 1}):
                if 0 <= number < many:
                    row = wound_at(word, 400, number)
                    self.assertEqual(len(row), 400)
                    self.assertIs(is_wound(word, row), True)
                    self.assertEqual(counted.number(row), number)
        self.assertGreater(most, 10 ** 60)

    def test_a_count_of_very_many_figures_is_handed_in_again(self):
        word = tuple("abcbbabccaac")
        many = count_wound(word, 400)
        self.assertGreater(many, 10 ** 120)
        self.assertEqual(many, Counted(word, 400).count(400))
        refused(self, NoNumber, many, wound_at, word, 400, many)
        self.assertIs(is_wound(word, wound_at(word, 400, many - 1)), True)
        refused(self, TooMany, many, wound_rows, word, 400)

    def test_no_number(self):
        word = ("a", "a", "b", "b")
        many = count_wound(word, 9)
        for thing in no_numbers(many):
            refused(self, NoNumber, thing, wound_at, word, 9, thing)

    def test_too_many_from_1001_on(self):
        seen = set()
        for word in great_words() + [("a", "b", "a"), ("a",) * 3, tuple("abcb"), tuple("aabb")]:
            for size in (12, 14, 16, 18, 20, 22, 24, 30, 45, 100):
                many = count_wound(word, size)
                seen.add(many <= 1000)
                if many > 1000:
                    refused(self, TooMany, many, wound_rows, word, size)
                else:
                    rows = wound_rows(word, size)
                    self.assertEqual(len(rows), many)
                    self.assertEqual(list(rows), sorted(set(rows)))
                    self.assertTrue(all(len(row) == size and is_wound(word, row) for row in rows))
        self.assertEqual(seen, {True, False})

    def test_just_1000_and_just_1001(self):
        for word, size, many in (("bacbcadcdc", 25, 999), ("ccbaacacccb", 20, 1000)):
            self.assertEqual(count_wound(tuple(word), size), many)
            self.assertEqual(len(set(wound_rows(tuple(word), size))), many)
        for word, size in (("eadcbeaca", 34), ("dccdbdc", 21), ("bbcbbabababc", 22)):
            refused(self, TooMany, 1001, wound_rows, tuple(word), size)
        self.assertEqual(len(set(wound_rows(("a", "a", "b", "b"), 400))), 397)

    def test_by_names(self):
        self.assertEqual(count_wound(size=4, word=("a", "a", "b")), 1)
        self.assertEqual(wound_at(number=0, size=4, word=("a", "a", "b")), ("a", "a", "a", "b"))
        self.assertEqual(wound_rows(size=4, word=("a", "a", "b")), (("a", "a", "a", "b"),))


if __name__ == "__main__":
    unittest.main()
