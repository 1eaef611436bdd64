"""Points 2, 3 (a), 15, 16 and 17: marks, their rounds, a paper of all of them."""

import itertools
import unittest

from tests.helper import great_webs, paper_faults, plain_goals, plain_rounds, plain_walk, small_cases, worlds_of
from woundwalks.marks import marks, marks_paper, round_of, rounds
from woundwalks.walks import wound_places


def all_cases():
    return itertools.chain(small_cases(60), great_webs())


class TestMarks(unittest.TestCase):
    def test_told_ones(self):
        web = (3, ((0, "a", (1, 2)), (1, "b", (2,)), (2, "b", (0, 1))))
        self.assertEqual(marks(web, ("a", "b")), ((0, 0), (0, 2), (1, 1), (1, 2), (2, 1), (2, 2)))
        self.assertEqual(rounds(web, ("a", "b")), (((0, 2), (1, 2), (2, 2)), ((1, 1), (2, 1)), ((0, 0),)))
        self.assertEqual(marks(web, ("a", "b"), goals=(2,)), ((1, 1), (2, 2)))
        self.assertEqual([round_of(web, ("a", "b"), 0, place) for place in range(3)], [2, None, 0])
        self.assertEqual(marks(web, ()), ((0, 0), (1, 0), (2, 0)))
        self.assertEqual(rounds(web, (), goals=(1,)), (((1, 0),),))

    def test_winding_back_makes_marks(self):
        web = (4, ((0, "a", (1,)), (1, "a", (2,)), (2, "a", (3,)), (3, "b", (3,))))
        self.assertEqual(rounds(web, ("a", "a", "b"), goals=(3,)), (
            ((3, 3),), ((3, 2),), ((2, 1), (2, 2)), ((1, 0), (1, 1), (1, 2)), ((0, 0), (0, 1), (0, 2))))
        # By "a" one may stay at 0 again and again: no mark there.
        web = (2, ((0, "a", (0, 1)), (1, "b", (1,))))
        self.assertEqual(marks(web, ("a", "a", "b"), goals=(1,)), ((1, 2), (1, 3)))

    def test_marked_just_where_walked_in_every_world(self):
        some = set()
        for web, word, goals in small_cases(60):
            everywhere = set(itertools.product(range(web[0]), range(len(word) + 1)))
            for world in worlds_of(web):
                everywhere &= set(wound_places(web, world, word, goals=goals))
            told = marks(web, word, goals=goals)
            self.assertEqual(told, tuple(sorted(everywhere)), (web, word, goals))
            some.add(len(told))
        self.assertGreater(len(some), 8)

    def test_marked_just_where_plain_walks_are_in_every_world(self):
        for web, word, goals in itertools.islice(small_cases(40), 0, None, 5):
            if web[0] * len(word) > 6 or len(worlds_of(web)) > 9:
                continue
            told = [(c, i) for c, i in itertools.product(range(web[0]), range(len(word) + 1))
                    if all(plain_walk(web, world, word, c, i, goals) is not None for world in worlds_of(web))]
            self.assertEqual(marks(web, word, goals=goals), tuple(told))

    def test_rounds_to_the_letter(self):
        many = 0
        for web, word, goals in all_cases():
            told = plain_rounds(web, word, goals)
            self.assertEqual(rounds(web, word, goals=goals), told, (web, word, goals))
            self.assertEqual(marks(web, word, goals=goals), tuple(sorted(itertools.chain.from_iterable(told))))
            many = max(many, len(told))
        self.assertGreater(many, 40)

    def test_great_webs_have_many_marks_but_not_all(self):
        sizes = [len(marks(web, word, goals=goals)) for web, word, goals in great_webs()]
        self.assertEqual((min(sizes), max(sizes)), (0, 40 * 13))
        self.assertGreater(len(set(sizes)), 15)

    def test_no_goals(self):
        for web, word, goals in all_cases():
            if goals == ():
                self.assertEqual(marks(web, word, goals=goals), ())
                self.assertEqual(rounds(web, word, goals=goals), ())
                self.assertEqual(marks_paper(web, word, goals=goals), ())
                self.assertIsNone(round_of(web, word, 0, len(word), goals=goals))
        self.assertEqual(rounds((0, ()), ("a",)), ())
        self.assertEqual(marks((0, ()), ()), ())

    def test_round_of(self):
        for web, word, goals in itertools.chain(itertools.islice(small_cases(60), 0, None, 9), great_webs()[::9]):
            told = {mark: number for number, fresh in enumerate(plain_rounds(web, word, goals)) for mark in fresh}
            for crossing, place in itertools.product(range(web[0]), range(len(word) + 1)):
                self.assertEqual(round_of(web, word, crossing, place, goals=goals), told.get((crossing, place)))

    def test_round_of_somewhat_beyond_the_limits(self):
        web = (2, ((0, "a", (1,)), (1, "a", (1,))))
        for crossing, place in ((2, 0), (-1, 0), (0, 3), (0, -1)):
            self.assertIsNone(round_of(web, ("a", "a"), crossing, place))

    def test_a_paper_of_all_marks(self):
        grounds = set()
        for web, word, goals in all_cases():
            paper = marks_paper(web, word, goals=goals)
            self.assertIs(type(paper), tuple)
            self.assertEqual(paper_faults(web, word, goals, paper), [])
            self.assertEqual(tuple(sorted(row[:2] for row in paper)), marks(web, word, goals=goals))
            grounds |= {row[2][0] for row in paper}
        self.assertEqual(grounds, {"end", "post", "back"})

    def test_left_out_and_said(self):
        for web, word, _ in all_cases():
            everywhere = tuple(sorted(plain_goals(web, None)))
            for call in (marks, rounds, marks_paper):
                told = call(web, word)
                self.assertEqual(call(web, word, goals=None), told)
                self.assertEqual(call(goals=everywhere, word=word, web=web), told)
            told = round_of(web, word, 0, 0)
            self.assertEqual(round_of(web, word, 0, 0, goals=everywhere), told)
            self.assertEqual(round_of(goals=None, place=0, crossing=0, word=word, web=web), told)
        for call in (marks, rounds, marks_paper):
            with self.assertRaises(TypeError):
                call((0, ()), (), None)
        with self.assertRaises(TypeError):
            round_of((0, ()), (), 0, 0, None)


if __name__ == "__main__":
    unittest.main()
