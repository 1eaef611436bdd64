"""Points 2, 3 (j) and 38: what texts tell."""

import itertools
import random
import re
import unittest

from tests.helper import (
    great_webs, great_words, look, make_web, odd_things, plain_web, refused, rows_of, small_cases, small_webs, some_paper,
    some_web, some_world, worlds_of)
from woundwalks.errors import NoText
from woundwalks.marks import marks_paper
from woundwalks.reading import read_paper, read_row, read_web, read_world
from woundwalks.showing import show_paper, show_row, show_web, show_world

WEB = (3, ((0, "a", (1, 2)), (1, "bcdefg", (2,)), (2, "b", (0, 1))))
SIGNS = [chr(number) for number in range(32, 127)] + ["\n"]

NUMBER = "(?:0|[1-9][0-9]{0,2})"
NAME = "[a-z]{1,6}"
ROW = re.compile(f"-|{NAME}(?: {NAME})*")
WORLD = re.compile(f"-|{NUMBER}(?: {NUMBER})*")
SIZE = re.compile(NUMBER)
POST = re.compile(f"({NUMBER}) ({NAME})((?: {NUMBER})+)")
MARK = re.compile(f"({NUMBER}) ({NUMBER}) (end|post|back {NUMBER})")


def ints(text):
    return tuple(int(part) for part in text.split())


# Each tells (what is read, None) or (None, the number of the row), to the letter of point 38.

def plain_one(text, form, tell, is_such):
    rows = text.split("\n")
    if not form.fullmatch(rows[0]):
        return None, 0
    if len(rows) > 1:
        return None, 1
    told = () if text == "-" else tell(text)
    return (told, None) if is_such(told) else (None, 0)


def plain_read_row(text):
    return plain_one(text, ROW, lambda one: tuple(one.split(" ")), lambda row: len(row) <= 400)


def plain_read_world(text, web):
    return plain_one(text, WORLD, ints, lambda world: len(world) == len(web[1]) and all(
        arm in post[2] for arm, post in zip(world, web[1])))


def plain_read_web(text):
    rows = text.split("\n")
    for number, row in enumerate(rows):
        if not (POST if number else SIZE).fullmatch(row):
            return None, number
    posts = ()
    for number, row in enumerate(rows):
        if number:
            crossing, name, arms = POST.fullmatch(row).groups()
            posts += ((int(crossing), name, ints(arms)),)
        if not plain_web((int(rows[0]), posts)):
            return None, number
    return (int(rows[0]), posts), None


def plain_read_paper(text):
    if text == "-":
        return (), None
    told = ()
    for number, row in enumerate(text.split("\n")):
        found = MARK.fullmatch(row)
        if not found:
            return None, number
        ground = found[3].split(" ")
        told += ((int(found[1]), int(found[2]), (ground[0], *map(int, ground[1:]))),)
    return told, None


def spoilt_texts(rng, text, many):
    """The text with a sign out, more, another, two exchanged; with rows and words out, more, twice, exchanged."""
    yield from (text + "\n", "\n" + text, text + " ", " " + text, text + "\n\n", text + "\n-", "-\n" + text, "-" + text)
    for _ in range(many):
        at, other = sorted((rng.randrange(len(text) + 1), rng.randrange(len(text) + 1)))
        sign = rng.choice((*"  \n\n--0019azendpostback:/.~", *SIGNS))
        yield text[:at] + text[at + 1:]
        yield text[:at] + sign + text[at:]
        yield text[:at] + sign + text[at + 1:]
        yield text[:at] + text[other:]
        for parts, by in ((text.split("\n"), "\n"), (re.split("( |\n)", text), "")):
            one, two = rng.randrange(len(parts)), rng.randrange(len(parts))
            changed = list(parts)
            changed[one], changed[two] = changed[two], changed[one]
            yield by.join(changed)
            yield by.join(parts[:one] + parts[one + 1:])
            yield by.join(parts[:one] + [parts[two]] + parts[one:])
        numbers = list(re.finditer("[0-9]+", text))
        if numbers:
            found = rng.choice(numbers)
            for new in ("0" + found[0], found[0] + "0", "00", "000", "999", "1000", "0999", "0", "40", "41", "", "-1", "+1",
                        "1_0"):
                yield text[:found.start()] + new + text[found.end():]


class Read(unittest.TestCase):
    def check(self, call, plain, text, *others):
        told, row = plain(text, *others)
        if row is None:
            self.assertEqual(look(call(text, *others)), look(told), text)
            return True
        refused(self, NoText, row, call, text, *others)
        return False

    def check_spoilt(self, call, plain, texts, many, *others):
        rng = random.Random(38)
        seen = {}
        for text in texts:
            self.check(call, plain, text, *others)
            for other in spoilt_texts(rng, text, many):
                self.check(call, plain, other, *others)
                row = plain(other, *others)[1]
                seen[row] = seen.get(row, 0) + 1
        return seen


class TestAll(Read):
    def test_what_is_no_text(self):
        for thing in odd_things():
            if type(thing) is not str:
                for call, others in ((read_row, ()), (read_web, ()), (read_world, (WEB,)), (read_world, ((0, ()),)),
                                     (read_paper, ())):
                    before = look(thing)
                    refused(self, NoText, 0, call, thing, *others)
                    refused(self, NoText, 0, call, (thing,), *others)
                    refused(self, NoText, 0, call, [thing], *others)
                    self.assertEqual(look(thing), before)
        for call, others in ((read_row, ()), (read_web, ()), (read_world, (WEB,)), (read_paper, ())):
            refused(self, NoText, 0, call, b"-", *others)
            refused(self, NoText, 0, call, ["-"], *others)
            refused(self, NoText, 0, call, 3, *others)

    def test_texts_of_any_kind(self):
        texts = [thing for thing in odd_things() if type(thing) is str] + SIGNS
        texts += ["".join(signs) for signs in itertools.product("a1-0 \n", repeat=3)]
        texts += [" " * 20000, "\n" * 20000, "-" * 20000, "0" * 20000, "a" * 20000, "a " * 10000, "0 " * 9999 + "0",
                  "0 a 0\n" * 3333, "0 0 end\n" * 2500, "1\n" * 10000]
        for text in texts:
            self.check(read_row, plain_read_row, text)
            self.check(read_web, plain_read_web, text)
            self.check(read_world, plain_read_world, text, WEB)
            self.check(read_world, plain_read_world, text, (2, ()))
            self.check(read_paper, plain_read_paper, text)

    def test_by_names(self):
        self.assertEqual(read_row(text="a b"), ("a", "b"))
        self.assertEqual(read_web(text="1\n0 a 0"), (1, ((0, "a", (0,)),)))
        self.assertEqual(read_world(web=WEB, text="1 2 0"), (1, 2, 0))
        self.assertEqual(read_paper(text="0 0 end"), ((0, 0, ("end",)),))


class TestRows(Read):
    def test_told_ones(self):
        self.assertEqual(read_row("-"), ())
        self.assertEqual(read_row("a"), ("a",))
        self.assertEqual(read_row("a zzzzzz a"), ("a", "zzzzzz", "a"))
        for text in ("", " ", "a ", " a", "a  b", "- ", "--", "- a", "a -", "A", "a1", "abcdefg", "a,b", "\n", "\na", "A\nb",
                     "a\t", "a  \nb", "0"):
            refused(self, NoText, 0, read_row, text)
        for text in ("a\n", "a\nb", "-\n", "-\n-", "a\n\n", "a b\nA", "a\n "):
            refused(self, NoText, 1, read_row, text)

    def test_400_names_and_one_more(self):
        for name in ("a", "abcdef"):
            for many in (399, 400):
                self.assertEqual(read_row(" ".join([name] * many)), (name,) * many)
            for many in (401, 402, 1000):
                text = " ".join([name] * many)
                refused(self, NoText, 0, read_row, text)
                # A row that may not stand there is told ahead of it.
                refused(self, NoText, 1, read_row, text + "\n")
                refused(self, NoText, 0, read_row, text + " A\n")

    def test_what_is_shown_is_read(self):
        for row in [*rows_of("ab", 5), *great_words(), ("abcdef",) * 400, ("a",) * 13]:
            self.assertEqual(look(read_row(show_row(row))), look(row))

    def test_spoilt_ones(self):
        texts = ["-", "a", "a b", "abcdef a zz", " ".join(["ab"] * 12), " ".join(["ab"] * 400), " ".join(["a"] * 401)]
        seen = self.check_spoilt(read_row, plain_read_row, texts, 120)
        self.assertGreater(min(seen[None], seen[0], seen[1]), 100)


class TestWebs(Read):
    def test_told_ones(self):
        self.assertEqual(read_web("3\n0 a 1 2\n1 bcdefg 2\n2 b 0 1"), WEB)
        self.assertEqual(read_web("0"), (0, ()))
        self.assertEqual(read_web("40"), (40, ()))
        for text, row in (
                ("", 0), ("-", 0), ("03", 0), ("00", 0), ("3 ", 0), (" 3", 0), ("3 3", 0), ("a", 0), ("1000", 0), ("-1", 0),
                ("41", 0), ("999", 0), ("\n3", 0), ("3\n", 1), ("3\n\n", 1), ("3\n-", 1), ("3\n0 a", 1), ("3\n0 a ", 1),
                ("3\n0 a 1 ", 1), ("3\n0  a 1", 1), ("3\n a 1", 1), ("3\n0 A 1", 1), ("3\n0 abcdefg 1", 1), ("3\n0 1", 1),
                ("3\n0 a b", 1), ("3\n00 a 1", 1), ("3\n0 a 01", 1), ("3\n0 a 1000", 1), ("3\n3 a 1", 1), ("3\n0 a 3", 1),
                ("3\n0 a 1 0", 1), ("3\n0 a 1 1", 1), ("3\n0 a 999", 1), ("3\n999 a 0", 1), ("0\n0 a 0", 1),
                ("3\n0 a 1\n", 2), ("3\n0 a 1\n0 a 1", 2), ("3\n0 a 1\n0 a 2", 2), ("3\n0 b 1\n0 a 1", 2),
                ("3\n1 a 1\n0 a 1", 2), ("3\n0 a 1\n3", 2), ("3\n0 a 1\n1 a 1 \n2 a 1", 2)):
            refused(self, NoText, row, read_web, text)

    def test_the_first_of_no_form_is_told_ahead(self):
        for text, row in (("41\n0 a 0\n-", 2), ("999\n0 a", 1), ("3\n7 a 0\n0 a 9\n0 a", 3), ("3\n0 a 1 0\n\n0 a", 2),
                          ("3\n0 a 0\n0 a 0\n1 a 0\n1 a 0 ", 4), ("x\n0 a", 0)):
            refused(self, NoText, row, read_web, text)

    def test_40_crossings_and_one_more(self):
        for n in range(45):
            text = f"{n}\n0 a 0"
            if n == 0:
                refused(self, NoText, 1, read_web, text)
            elif n > 40:
                refused(self, NoText, 0, read_web, text)
                refused(self, NoText, 0, read_web, f"{n}")
            else:
                self.assertEqual(read_web(text), (n, ((0, "a", (0,)),)))
                refused(self, NoText, 2, read_web, f"{text}\n{n} a 0")
                refused(self, NoText, 2, read_web, f"{text}\n0 b {n}")

    def test_120_posts_and_one_more(self):
        rows = [f"{crossing} {name} 0 39" for crossing in range(40) for name in ("a", "b", "c", "dd")]
        for many in (119, 120):
            self.assertEqual(len(read_web("\n".join(["40", *rows[:many]]))[1]), many)
        for many in (121, 122, 160):
            refused(self, NoText, 121, read_web, "\n".join(["40", *rows[:many]]))
            # One ahead of it that stands wrong is the first by which it is none; one of no form ahead of all.
            refused(self, NoText, 7, read_web, "\n".join(["40", *rows[:6], rows[0], *rows[6:many]]))
            refused(self, NoText, 0, read_web, "\n".join(["41", *rows[:many]]))
            refused(self, NoText, many + 1, read_web, "\n".join(["41", *rows[:many], ""]))

    def test_eight_arms_and_one_more(self):
        for many in (1, 7, 8):
            arms = tuple(range(30, 30 + many))
            self.assertEqual(read_web(f"40\n5 a {show_world(arms)}"), (40, ((5, "a", arms),)))
        for many in (9, 10):
            arms = show_world(tuple(range(30, 30 + many)))
            refused(self, NoText, 1, read_web, f"40\n5 a {arms}")
            # How many arms there are is no matter of the form.
            refused(self, NoText, 2, read_web, f"40\n5 a {arms}\n")
            refused(self, NoText, 2, read_web, f"40\n5 a 1\n6 a {arms}\n7 a 1")

    def test_what_is_shown_is_read(self):
        webs = small_webs(120) + [web for web, _, _ in great_webs()[::5]]
        for web in webs:
            self.assertEqual(look(read_web(show_web(web))), look(web))

    def test_spoilt_ones(self):
        rng = random.Random(39)
        texts = ["0", "40", "3", show_web(WEB)] + [show_web(web) for web in small_webs(20)]
        texts += [show_web(some_web(rng, 40, "abc", 120, 8)), show_web(some_web(rng, 12, ("a", "bb", "ccc"), 9, 8))]
        seen = self.check_spoilt(read_web, plain_read_web, texts, 25)
        self.assertGreater(len(seen), 40)
        self.assertGreater(min(seen[None], seen[0], seen[1], seen[2]), 100)

    def test_rows_twice_and_exchanged(self):
        web = make_web(40, {(crossing, name): (crossing,) for crossing in range(40) for name in "abc"})
        rows = show_web(web).split("\n")
        for at in (1, 2, 60, 119):
            refused(self, NoText, at + 1, read_web, "\n".join(rows[:at] + [rows[at + 1], rows[at]] + rows[at + 2:]))
            refused(self, NoText, at + 1, read_web, "\n".join(rows[:at + 1] + rows[at:]))
            self.assertEqual(read_web("\n".join(rows[:at] + rows[at + 1:])), (40, web[1][:at - 1] + web[1][at:]))


class TestWorlds(Read):
    def test_told_ones(self):
        self.assertEqual(read_world("1 2 0", WEB), (1, 2, 0))
        self.assertEqual(read_world("-", (3, ())), ())
        self.assertEqual(read_world("-", (0, ())), ())
        for text in ("", "-", "1 2", "1 2 0 0", "1 2 2", "0 2 0", "1  2 0", "01 2 0", "1 2 0 ", " 1 2 0", "1 2 00", "a", "- 1",
                     "1 2 1000", "999 2 0", "1 2 -", "\n1 2 0", "-1 2 0", "1,2,0"):
            refused(self, NoText, 0, read_world, text, WEB)
        for text in ("1 2 0\n", "1 2 0\n1 2 0", "-\n", "-\n-", "9 9 9\n", "1\n", "1 2 0\n\n"):
            refused(self, NoText, 1, read_world, text, WEB)
        for text in ("", "0", "- -", "--"):
            refused(self, NoText, 0, read_world, text, (3, ()))

    def test_what_is_shown_is_read(self):
        rng = random.Random(40)
        for web in small_webs(80):
            for world in worlds_of(web):
                self.assertEqual(look(read_world(show_world(world), web)), look(world))
        for web, _, _ in great_webs()[::4]:
            world = some_world(rng, web)
            self.assertEqual(look(read_world(show_world(world), web)), look(world))

    def test_worlds_of_another_web(self):
        seen = {True: 0, False: 0}
        for web, other in itertools.product(small_webs(40), repeat=2):
            for world in worlds_of(web)[:3]:
                seen[self.check(read_world, plain_read_world, show_world(world), other)] += 1
        self.assertGreater(min(seen.values()), 100)

    def test_spoilt_ones(self):
        rng = random.Random(41)
        for web in small_webs(30)[::3] + [great_webs()[20][0]]:
            texts = [show_world(some_world(rng, web))]
            seen = self.check_spoilt(read_world, plain_read_world, texts, 40, web)
            self.assertGreater(min(seen[0], seen[1]), 2)


class TestPapers(Read):
    def test_told_ones(self):
        self.assertEqual(read_paper("-"), ())
        text = "2 3 end\n2 2 post\n1 2 back 1\n999 0 back 999"
        self.assertEqual(read_paper(text), (
            (2, 3, ("end",)), (2, 2, ("post",)), (1, 2, ("back", 1)), (999, 0, ("back", 999))))
        for text in ("", " ", "--", "- ", "0 0", "0 0 ", "0 0 end ", " 0 0 end", "0  0 end", "0 0 ends", "0 0 back", "0 0 back ",
                     "0 0 back a", "0 0 back 01", "0 0 back 1 1", "0 0 end 1", "0 0 post 1", "00 0 end", "0 00 end",
                     "1000 0 end", "0 1000 end", "0 0 back 1000", "a 0 end", "0 end", "end", "0 0 0 end", "0 0 END", "-1 0 end",
                     "\n0 0 end", "-\n", "-\n-", "-\n0 0 end", "0 0 back -1"):
            refused(self, NoText, 0, read_paper, text)
        for text in ("0 0 end\n", "0 0 end\n-", "0 0 end\n\n0 0 end", "0 0 end\n0 0", "0 0 end\n0 0 end "):
            refused(self, NoText, 1, read_paper, text)

    def test_only_forms_are_looked_at(self):
        text = "0 0 end\n0 0 end\n999 999 post\n0 0 back 0\n3 1 back 2"
        self.assertEqual(len(read_paper(text)), 5)
        self.assertEqual(len(read_paper("\n".join(["0 0 end"] * 2000))), 2000)

    def test_what_is_shown_is_read(self):
        rng = random.Random(42)
        for web, word, goals in itertools.chain(small_cases(30), great_webs()):
            paper = marks_paper(web, word, goals=goals)
            self.assertEqual(look(read_paper(show_paper(paper))), look(paper))
            if web[0] < 4 and rng.random() < 0.1:
                paper = some_paper(rng, web, word, goals, 6)
                self.assertEqual(look(read_paper(show_paper(paper))), look(paper))

    def test_spoilt_ones(self):
        web, word, goals = max(great_webs(), key=lambda case: len(marks_paper(case[0], case[1], goals=case[2])))
        texts = ["-", "0 0 end", "2 3 end\n2 2 post\n1 2 back 1\n10 12 back 11", show_paper(marks_paper(web, word, goals=goals))]
        seen = self.check_spoilt(read_paper, plain_read_paper, texts, 80)
        self.assertGreater(len(seen), 20)
        self.assertGreater(min(seen[None], seen[0], seen[1], seen[2]), 50)


if __name__ == "__main__":
    unittest.main()
