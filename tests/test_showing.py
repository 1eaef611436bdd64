"""Points 2, 3 (j) and 37: what is shown as texts."""

import random
import unittest

from tests.helper import great_webs, look, plain_marks, small_cases, small_webs, some_paper, some_world, worlds_of
from woundwalks.marks import marks_paper
from woundwalks.showing import show_paper, show_row, show_web, show_world

WEB = (3, ((0, "a", (1, 2)), (1, "bcdefg", (2,)), (2, "b", (0, 1))))


class TestShowing(unittest.TestCase):
    def test_rows(self):
        self.assertEqual(show_row(()), "-")
        self.assertEqual(show_row(("a",)), "a")
        self.assertEqual(show_row(("a", "b", "zzzzzz", "a")), "a b zzzzzz a")
        self.assertEqual(show_row(row=("a", "b")), "a b")
        self.assertEqual(show_row(("abcdef",) * 400), " ".join(["abcdef"] * 400))

    def test_webs(self):
        self.assertEqual(show_web(WEB), "3\n0 a 1 2\n1 bcdefg 2\n2 b 0 1")
        self.assertEqual(show_web((0, ())), "0")
        self.assertEqual(show_web((40, ())), "40")
        self.assertEqual(show_web((40, ((39, "a", (0, 9, 10, 39)),))), "40\n39 a 0 9 10 39")
        self.assertEqual(show_web(web=(1, ((0, "a", (0,)), (0, "b", (0,))))), "1\n0 a 0\n0 b 0")

    def test_worlds(self):
        self.assertEqual(show_world(()), "-")
        self.assertEqual(show_world((0,)), "0")
        self.assertEqual(show_world((1, 2, 39, 0)), "1 2 39 0")
        self.assertEqual(show_world(world=(7,)), "7")

    def test_papers(self):
        paper = ((2, 3, ("end",)), (2, 2, ("post",)), (1, 1, ("post",)), (1, 2, ("back", 1)), (10, 12, ("back", 11)))
        self.assertEqual(show_paper(paper), "2 3 end\n2 2 post\n1 1 post\n1 2 back 1\n10 12 back 11")
        self.assertEqual(show_paper(()), "-")
        self.assertEqual(show_paper(paper=paper[:1]), "2 3 end")

    def test_by_another_way(self):
        rng = random.Random(37)
        for web in small_webs(60) + [web for web, _, _ in great_webs()[::5]]:
            before = look(web)
            lines = show_web(web).split("\n")
            self.assertEqual(int(lines[0]), web[0])
            told = [line.split(" ") for line in lines[1:]]
            self.assertEqual([(int(line[0]), line[1], tuple(map(int, line[2:]))) for line in told], list(web[1]))
            for world in worlds_of(web)[:3] if web[0] < 4 else [some_world(rng, web)]:
                self.assertEqual(show_world(world), " ".join(f"{arm}" for arm in world) or "-")
            self.assertEqual(look(web), before)

    def test_papers_of_webs(self):
        rng = random.Random(38)
        for web, word, goals in [*small_cases(20), *great_webs()]:
            papers = [marks_paper(web, word, goals=goals)]
            if web[0] < 4:
                papers.append(some_paper(rng, web, word, goals, 5))
            for paper in papers:
                self.assertLessEqual({row[:2] for row in paper}, plain_marks(web, word, goals))
                text = show_paper(paper)
                lines = [" ".join([str(c), str(p), *map(str, ground)]) for c, p, ground in paper]
                self.assertEqual(text, "\n".join(lines) if paper else "-")


if __name__ == "__main__":
    unittest.main()
