"""Points 2, 3 (i), (j) and 39: a desk, each line beside the yard's call and the functions."""

import itertools
import random
import re
import unittest

from tests.helper import (
    KINDS, Counted, PlainYard, great_webs, great_words, least_walks, look, no_numbers, odd_things, plain_fails,
    plain_lacking, plain_marks, plain_rounds, rows_of, some_deed)
from woundwalks.desk import Desk
from woundwalks.errors import (
    Full, LastArm, NoArm, NoArms, NoAsk, NoBack, NoCrossing, NoGoals, NoLine, NoPlace, NoPost, NoSize, NoWord, PostThere,
    WalkError)
from woundwalks.yard import Yard

NUMBER = "(?:0|[1-9][0-9]{0,2})"
NAME = "[a-z]{1,6}"
ROW = f"(?:-|{NAME}(?: {NAME})*)"
FORMS = re.compile("|".join((
    f"put {NUMBER} {NAME}(?: {NUMBER})+", f"take {NUMBER} {NAME}", f"(?:widen|strike|settle) {NUMBER} {NAME} {NUMBER}",
    f"word {ROW}", f"into(?: {NUMBER})* : {ROW}", "back|marks|worst|row|somewhere|reach|kinds|show|size",
    f"round {NUMBER} {NUMBER}", f"from {NUMBER}", f"among(?: {NUMBER})+", f"wound {NUMBER}")))
BARE = ("back", "marks", "worst", "row", "somewhere", "reach", "kinds", "show", "size")
DEEDS = ("put", "take", "widen", "strike", "settle", "word", "into", "back")


def row_in(text):
    return () if text == "-" else tuple(text.split(" "))


def text_of(parts):
    return " ".join(map(str, parts)) or "-"


def is_line(line):
    """Whether it is one of the lines by its form, to the letter of point 39."""
    if type(line) is not str or not FORMS.fullmatch(line):
        return False
    words = line.split(" ")
    if words[0] == "wound":
        return int(words[1]) <= 400
    if words[0] in ("word", "into"):
        return len(words[words.index(":") + 1 if words[0] == "into" else 1:]) <= 400
    return True


def yard_call(line):
    """The deed, the arguments and the named ones of the yard that a line of a deed stands for."""
    words = line.split(" ")
    if words[0] == "word":
        return "turn_to", (row_in(line[5:]),), {}
    if words[0] == "into":
        goals, row = line[5:].split(": ")
        return "turn_to", (row_in(row),), {"goals": tuple(map(int, goals.split()))}
    if words[0] == "back":
        return "back", (), {}
    if words[0] == "put":
        return "put", (int(words[1]), words[2], tuple(map(int, words[3:]))), {}
    return words[0], (int(words[1]), words[2], *map(int, words[3:])), {}


def ask_in(line, plain):
    words = line.split(" ")
    if words[0] == "reach":
        return "into", tuple(range(plain.n)) if plain.goals is None else plain.goals
    if words[0] == "from":
        return "from", int(words[1])
    return ("somewhere",) if words[0] == "somewhere" else ("among", tuple(map(int, words[1:])))


def is_plain_ask(plain, ask):
    if ask[0] == "from":
        return ask[1] < plain.n
    return ask[0] != "among" or (list(ask[1]) == sorted(set(ask[1])) and all(one < plain.n for one in ask[1]))


def due(plain, line):
    """The class and the values of what is due, None."""
    if not is_line(line):
        return NoLine, {}
    words = line.split(" ")
    if words[0] in DEEDS:
        deed, args, named = yard_call(line)
        return plain.due(deed, args, **named)
    if words[0] == "round":
        crossing, place = map(int, words[1:])
        if crossing >= plain.n:
            return NoCrossing, {"crossing": crossing}
        return (NoPlace, {"place": place}) if place > len(plain.word) else None
    if words[0] in ("from", "among", "somewhere", "reach"):
        ask = ask_in(line, plain)
        return None if is_plain_ask(plain, ask) else (NoAsk, {"ask": ask})
    return None


class Compared(unittest.TestCase):
    def say(self, desk, plain, line):
        """The line said to the desk, beside the plain yard; told is the text, or the class of the refusal."""
        log = desk.log()
        refusal = due(plain, line)
        if refusal:
            with self.assertRaises(WalkError) as caught:
                desk.say(line)
            self.assertIs(type(caught.exception), refusal[0], line)
            self.assertEqual(look(vars(caught.exception)), look(refusal[1]))
            told = refusal[0]
        else:
            told = desk.say(line)
            self.assertIs(type(told), str)
            self.check(plain, line, told)
        self.assertEqual(desk.log(), log + ((line,) if type(line) is str else ()))
        return told

    def check(self, plain, line, told):
        words = line.split(" ")
        web, word, goals = plain.web(), plain.word, plain.goals
        if words[0] in DEEDS:
            deed, args, named = yard_call(line)
            won, lost = plain.do(deed, args, **named)
            self.assertEqual(told, f"{len(won)} {len(lost)}", line)
        elif words[0] == "marks":
            self.assertEqual(told, " ".join(f"{c}.{p}" for c, p in sorted(plain.marked())) or "-")
        elif words[0] == "round":
            found = [number for number, fresh in enumerate(plain_rounds(web, word, goals))
                     if tuple(map(int, words[1:])) in fresh]
            self.assertEqual(told, text_of(found) if found else "none")
        elif words[0] == "worst":
            world = self.world_in(web, told)
            self.assertEqual(set(least_walks(web, world, word, goals)), plain_marks(web, word, goals))
        elif words[0] in ("somewhere", "from", "among", "reach"):
            self.check_answer(web, word, ask_in(line, plain), told)
        else:
            shown = "/".join([f"{web[0]}", *[text_of((c, name, *arms)) for c, name, arms in web[1]]])
            self.assertEqual(told, {
                "row": text_of(word), "kinds": text_of([kind for kind in KINDS if plain_lacking(word, kind) is None]),
                "show": shown, "size": f"{len(plain.was)}",
                "wound": str(Counted(word, int(words[-1])).count(int(words[-1]))) if words[0] == "wound" else None,
            }[words[0]])

    def world_in(self, web, text):
        world = () if text == "-" else tuple(map(int, text.split(" ")))
        self.assertEqual(text, text_of(world))
        self.assertEqual(len(world), len(web[1]))
        self.assertTrue(all(arm in post[2] for arm, post in zip(world, web[1])))
        return world

    def check_answer(self, web, word, ask, told):
        row = plain_lacking(word, {"somewhere": "steady", "into": "late"}.get(ask[0], "firm"))
        if row is not None:
            self.assertEqual(told, f"loose {text_of(row)}")
            return
        crossings = {"from": ask[1:], "among": ask[-1]}.get(ask[0], range(web[0]))
        marked = plain_marks(web, word, ask[1] if ask[0] == "into" else None)
        sure = [crossing for crossing in crossings if (crossing, 0) in marked]
        if sure:
            self.assertEqual(told, f"sure {sure[0]}")
        else:
            self.assertEqual(told[:4], "not ")
            self.assertTrue(plain_fails(web, self.world_in(web, told[4:]), word, ask))


def some_line(rng, plain, names="ab"):
    """A line by chance, most of them of the form, some refused by the yard."""
    if rng.random() < 0.5 and plain.n:
        deed, args, named = some_deed(rng, plain, names)
        if deed != "turn_to":
            return " ".join([deed, *map(str, args[:2]), *map(str, itertools.chain(
                args[2] if deed == "put" else args[2:]))])
        if "goals" in named and named["goals"] is not None:
            return " ".join(["into", *map(str, named["goals"]), ":", text_of(args[0])])
        return f"word {text_of(args[0])}"
    n = plain.n + rng.choice((0, 0, 0, 1, 500))
    number = lambda: str(rng.randrange(max(1, n)))
    some = [number() for _ in range(rng.randint(1, 3))]
    if rng.random() < 0.8:
        some = sorted(set(some), key=int)
    word = text_of([rng.choice(names) for _ in range(rng.choice((0, 1, 2, 3, 4, 12, 13, 20)))])
    return rng.choice([*BARE, f"round {number()} {rng.randrange(len(plain.word) + 2)}", f"from {number()}",
                       f"among {' '.join(some)}", f"wound {rng.choice((0, 1, 2, 3, 5, 9, 400, 401))}",
                       f"put {number()} {rng.choice(names)} {' '.join(some)}", f"take {number()} {rng.choice(names)}",
                       f"into {' '.join(some)} : {word}", f"word {word}"])


def spoilt_lines(rng, line):
    """The line with a word out, more, exchanged, twice; a blank more; numbers and names of another form."""
    words = line.split(" ")
    for at in range(len(words) + 1):
        yield " ".join(words[:at] + words[at + 1:])
        for more in ("", "0", "a", "-", ":", "back"):
            yield " ".join(words[:at] + [more] + words[at:])
        if at < len(words):
            other = rng.randrange(len(words))
            changed = list(words)
            changed[at], changed[other] = changed[other], changed[at]
            yield " ".join(changed)
            for new in ("00", "0" + words[at], "1000", "999", words[at] + "0", "-1", "+1", "abcdefg", "abcdef", "A", words[at].upper(),
                        "", "-", ":", "a:", words[at] + "\n", words[at] + "\t", "1_0", "zzzzzz", "401", "400"):
                yield " ".join(words[:at] + [new] + words[at + 1:])
    yield from (line + " ", " " + line, line + "\n", "\n" + line, line.replace(" ", "  ", 1), line.replace(" ", "\n", 1),
                line.replace(" ", "\t"), line + "\n" + line)


class TestDesk(Compared):
    def test_a_told_one(self):
        desk = Desk(3)
        told = [("put 0 a 1 2", "0 0"), ("put 1 b 2", "0 0"), ("put 2 b 0 1", "0 0"), ("word a b", "5 2"),
                ("marks", "0.0 0.2 1.1 1.2 2.1 2.2"), ("round 0 0", "2"), ("round 1 0", "none"), ("round 2 2", "0"),
                ("row", "a b"), ("somewhere", "sure 0"), ("from 0", "sure 0"), ("among 0 1", "sure 0"), ("reach", "sure 0"),
                ("kinds", "firm late steady"), ("wound 2", "1"), ("wound 3", "0"), ("show", "3/0 a 1 2/1 b 2/2 b 0 1"),
                ("size", "4"), ("take 1 b", "0 2"), ("back", "2 0"), ("into 2 : a b", "0 4"), ("marks", "1.1 2.2"),
                ("settle 0 a 1", "1 0"), ("widen 0 a 2", "0 1"), ("strike 0 a 2", "1 0"), ("into : -", "0 3"), ("marks", "-"),
                ("row", "-"), ("reach", "not 1 2 0"), ("somewhere", "sure 0"), ("size", "9"), ("word a a b", "7 0"),
                ("from 0", "loose a a a b"), ("word -", "3 7")]
        for line, text in told:
            said = desk.say(line)
            if line == "reach" and text.startswith("not"):
                self.assertIn(said, ("not 1 2 0", "not 1 2 1"))
            else:
                self.assertEqual(said, text, line)
        self.assertEqual(desk.log(), tuple(line for line, _ in told))

    def test_a_new_one(self):
        for n in (0, 1, 3, 40):
            desk, plain = Desk(n=n), PlainYard(n)
            self.assertNotIsInstance(desk, Yard)
            self.assertEqual(desk.log(), ())
            for line in BARE:
                self.say(desk, plain, line)
            self.assertEqual(desk.say(line="show"), str(n))
        self.assertEqual(Desk(0).say("somewhere"), "not -")
        self.assertEqual(Desk(0).say("marks"), "-")
        self.assertEqual(Desk(0).say("worst"), "-")
        self.assertEqual(Desk(2).say("worst"), "-")
        self.assertEqual(Desk(2).say("marks"), "0.0 1.0")

    def test_sizes(self):
        for thing in no_numbers(41):
            with self.assertRaises(NoSize) as caught:
                Desk(thing)
            self.assertIs(caught.exception.n, thing)

    def test_lines_by_chance(self):
        rng = random.Random(39)
        seen = {}
        for _ in range(70):
            n = rng.choice((0, 1, 2, 3, 4, 4))
            desk, plain = Desk(n), PlainYard(n)
            for _ in range(70):
                line = some_line(rng, plain)
                told = self.say(desk, plain, line)
                kind = told if type(told) is type else told.split(" ")[0] if told[:1] in "lns" else "told"
                seen[line.split(" ")[0], kind] = seen.get((line.split(" ")[0], kind), 0) + 1
        for pair in (("put", PostThere), ("put", NoArms), ("put", NoCrossing), ("take", NoPost), ("widen", NoArm),
                     ("strike", LastArm), ("strike", NoArm), ("settle", NoArm), ("word", NoWord), ("into", NoWord),
                     ("into", NoGoals), ("back", NoBack), ("round", NoCrossing), ("round", NoPlace), ("round", "none"),
                     ("from", NoAsk), ("among", NoAsk), ("wound", NoLine), *itertools.product(
                         ("somewhere", "from", "among", "reach"), ("sure", "not", "loose"))):
            self.assertGreater(seen.get(pair, 0), 2, pair)

    def test_spoilt_lines(self):
        rng = random.Random(40)
        lines = [*BARE, "put 1 b 0 2", "take 0 a", "widen 0 a 2", "strike 0 a 1", "settle 0 a 1", "word a b", "word -",
                 "into 0 2 : b a", "into : -", "into 1 : a", "round 1 1", "from 1", "among 0 2", "wound 3"]
        seen = {}
        for line in lines:
            desk, plain = Desk(3), PlainYard(3)
            for first in ("put 0 a 0 1", "put 2 b 2", "word a b"):
                self.say(desk, plain, first)
            self.assertNotIn(self.say(desk, plain, line), (NoLine,))
            for spoilt in spoilt_lines(rng, line):
                kept = self.kept(desk)
                told = self.say(desk, plain, spoilt)
                seen[told == NoLine] = seen.get(told == NoLine, 0) + 1
                if type(told) is type:
                    self.assertEqual(self.kept(desk), kept)
        self.assertGreater(min(seen.values()), 200)

    def kept(self, desk):
        """All that the yard of a desk tells; what is asked for it is said to a desk, too: so its log grows."""
        yard = desk.yard
        return look((yard.web(), yard.its_word(), yard.its_goals(), len(yard), yard.marks()))

    def test_no_line_of_anything(self):
        desk = Desk(2)
        desk.say("put 0 a 1")
        texts = 0
        for thing in odd_things() + [b"back", ["back"], ("back",), 0, "", " ", "Back", "back ", "undo", "-", ":", "say back"]:
            with self.assertRaises(NoLine) as caught:
                desk.say(thing)
            self.assertIs(type(caught.exception), NoLine)
            self.assertEqual(vars(caught.exception), {})
            texts += type(thing) is str
            # What is no text isn't in the log.
            self.assertEqual(len(desk.log()), 1 + texts)
        self.assertTrue(all(type(line) is str for line in desk.log()))
        self.assertEqual((desk.say("size"), desk.say("show")), ("1", "2/0 a 1"))

    def refused(self, desk, line, error, **values):
        kept = self.kept(desk)
        with self.assertRaises(WalkError) as caught:
            desk.say(line)
        self.assertIs(type(caught.exception), error, line)
        self.assertEqual(look(vars(caught.exception)), look(values))
        self.assertEqual(self.kept(desk), kept)
        self.assertEqual(desk.log()[-1], line)

    def test_each_refusal_with_its_values(self):
        desk = Desk(3)
        for line in ("put 0 a 0 1", "put 1 a 2", "word a b"):
            desk.say(line)
        self.refused(desk, "put 3 a 5 5", NoCrossing, crossing=3)
        self.refused(desk, "put 0 a 5 5", PostThere)
        self.refused(desk, "put 0 b 2 1", NoArms, arms=(2, 1))
        self.refused(desk, "put 0 b 1 1", NoArms, arms=(1, 1))
        self.refused(desk, "put 0 b 3", NoArms, arms=(3,))
        self.refused(desk, "put 0 b 0 1 2 3 4 5 6 7 8", NoArms, arms=tuple(range(9)))
        self.refused(desk, "take 999 zzzzzz", NoCrossing, crossing=999)
        self.refused(desk, "take 2 a", NoPost)
        self.refused(desk, "widen 3 b 9", NoCrossing, crossing=3)
        self.refused(desk, "widen 0 b 9", NoPost)
        self.refused(desk, "widen 0 a 1", NoArm, arm=1)
        self.refused(desk, "widen 0 a 3", NoArm, arm=3)
        self.refused(desk, "strike 0 a 2", NoArm, arm=2)
        self.refused(desk, "strike 1 a 1", NoArm, arm=1)
        self.refused(desk, "strike 1 a 2", LastArm)
        self.refused(desk, "settle 0 a 2", NoArm, arm=2)
        self.refused(desk, "into 2 1 : a", NoGoals, goals=(2, 1))
        self.refused(desk, "into 1 1 : a", NoGoals, goals=(1, 1))
        self.refused(desk, "into 0 3 : a", NoGoals, goals=(0, 3))
        thirteen = ("a",) * 13
        self.refused(desk, "word " + " ".join(thirteen), NoWord, word=thirteen)
        self.refused(desk, "into 2 1 : " + " ".join(thirteen), NoWord, word=thirteen)
        self.refused(desk, "round 3 9", NoCrossing, crossing=3)
        self.refused(desk, "round 2 3", NoPlace, place=3)
        self.refused(desk, "from 3", NoAsk, ask=("from", 3))
        self.refused(desk, "among 1 0", NoAsk, ask=("among", (1, 0)))
        self.refused(desk, "among 0 0", NoAsk, ask=("among", (0, 0)))
        self.refused(desk, "among 3", NoAsk, ask=("among", (3,)))
        for line in ("put 3 A 9", "put 3 a", "put 3 a 01", "take 9 abcdefg", "into 2 1 : A", "round 9", "from 03", "among",
                     "into 2 1", "into 2 1 :", "into 2 1 a", "wound 401", "wound 999", "wound", "wound 1 1", "round 3 9 1"):
            self.refused(desk, line, NoLine)
        # An ask that is none is told ahead of a word that is loose.
        desk.say("word a a b")
        self.refused(desk, "from 3", NoAsk, ask=("from", 3))
        self.assertEqual(desk.say("from 2"), "loose a a a b")
        for _ in range(4):
            desk.say("back")
        self.refused(desk, "back", NoBack)

    def test_400_names_and_one_more(self):
        for head in ("word", "into : ".rstrip(), "into 0 1 :", "into 1 0 :"):
            desk = Desk(2)
            for name in ("a", "zzzzzz"):
                for many in (13, 399, 400):
                    row = (name,) * many
                    self.refused(desk, f"{head} {' '.join(row)}", NoWord, word=row)
                for many in (401, 402, 900):
                    self.refused(desk, f"{head} {' '.join([name] * many)}", NoLine)
            if head != "into 1 0 :":
                self.assertEqual(desk.say(f"{head} {' '.join(['a'] * 12)}").count(" "), 1)
                self.assertEqual(desk.say("row"), " ".join(["a"] * 12))

    def test_into_none(self):
        desk, plain = Desk(2), PlainYard(2)
        for line in ("put 0 a 1", "into : a", "marks", "reach", "somewhere", "into : -", "marks", "reach", "into 0 1 : a",
                     "marks", "reach", "word a", "marks", "reach", "back", "back", "back", "back", "marks"):
            self.say(desk, plain, line)
        desk.say("into : a")
        self.assertEqual(desk.yard.its_goals(), ())
        desk.say("word a")
        self.assertIsNone(desk.yard.its_goals())
        desk.say("into 0 1 : a")
        self.assertEqual(desk.yard.its_goals(), (0, 1))

    def test_answers_let_the_goals_be(self):
        desk = Desk(2)
        for line in ("put 0 a 1", "into 0 : a"):
            desk.say(line)
        self.assertEqual([desk.say(line) for line in ("marks", "somewhere", "from 0", "among 0 1", "reach", "size")],
                         ["0.1", "sure 0", "sure 0", "sure 0", "not 1", "2"])
        self.assertEqual(desk.yard.its_goals(), (0,))

    def test_wound(self):
        for word in (*rows_of("ab", 3), *great_words()[:8]):
            desk, plain = Desk(1), PlainYard(1)
            self.say(desk, plain, f"word {text_of(word)}")
            for size in (0, 1, 2, 5, 12, 99, 100, 400):
                self.say(desk, plain, f"wound {size}")
            for size in ("401", "999", "1000", "00", "012", "-1", "a"):
                self.refused(desk, f"wound {size}", NoLine)

    def test_kinds(self):
        seen = set()
        for word in (*rows_of("ab", 5), *great_words()):
            desk, plain = Desk(1), PlainYard(1)
            self.say(desk, plain, f"word {text_of(word)}")
            seen.add(self.say(desk, plain, "kinds"))
        self.assertLessEqual({"-", "firm late steady", "late steady", "firm steady"}, seen)

    def test_full(self):
        desk = Desk(40)
        for crossing, name in itertools.product(range(40), ("a", "b", "c")):
            desk.say(f"put {crossing} {name} 0 1 2 3 4 5 6 7")
        self.assertEqual(desk.say("size"), "120")
        self.refused(desk, "put 7 d 0", Full)
        self.refused(desk, "put 7 d 1 0", NoArms, arms=(1, 0))
        self.refused(desk, "widen 7 a 8", Full)
        self.refused(desk, "widen 7 a 7", NoArm, arm=7)
        self.assertEqual(desk.say("show").count("/"), 120)

    def test_great_webs(self):
        rng = random.Random(41)
        for web, word, goals in great_webs()[2::29]:
            desk, plain = Desk(40), PlainYard(40)
            for crossing, name, arms in web[1]:
                desk.say(f"put {crossing} {name} {text_of(arms)}")
            plain.posts = {post[:2]: post[2] for post in web[1]}
            plain.was = [None] * 120
            into = f"into {text_of(goals)}".replace(" -", "") if goals is not None else "word"
            self.say(desk, plain, f"{into} : {text_of(word)}" if goals is not None else f"word {text_of(word)}")
            for line in (*BARE[1:], "round 0 0", "round 39 12", "from 39", "among 0 20 39", "wound 400",
                         f"settle {web[1][0][0]} {web[1][0][1]} {web[1][0][2][-1]}", "marks", "back", "marks"):
                self.say(desk, plain, line)
            for _ in range(10):
                self.say(desk, plain, some_line(rng, plain, "abc"))

    def test_two_desks_are_apart(self):
        one, other = Desk(2), Desk(2)
        one.say("put 0 a 1")
        self.assertEqual((other.say("size"), other.say("show")), ("0", "2"))
        self.assertEqual((one.log(), other.log()), (("put 0 a 1",), ("size", "show")))
        other.say("word a")
        self.assertEqual(one.say("row"), "-")

    def test_told_logs_stay_as_they_were(self):
        desk = Desk(1)
        logs = [desk.log()]
        for line in ("size", "nothing", "size"):
            try:
                desk.say(line)
            except NoLine:
                pass
            logs.append(desk.log())
        self.assertEqual(logs, [(), ("size",), ("size", "nothing"), ("size", "nothing", "size")])
        self.assertEqual(desk.log(), desk.log())

    def test_beside_a_yard(self):
        """The same deeds at a yard and, as lines, at a desk."""
        rng = random.Random(42)
        for _ in range(20):
            n = rng.randint(1, 4)
            desk, yard, plain = Desk(n), Yard(n), PlainYard(n)
            for _ in range(40):
                line = some_line(rng, plain)
                if line.split(" ")[0] not in DEEDS:
                    continue
                told = self.say(desk, plain, line)
                deed, args, named = yard_call(line)
                if type(told) is type:
                    self.assertRaises(told, getattr(yard, deed), *args, **named)
                else:
                    won, lost = getattr(yard, deed)(*args, **named)
                    self.assertEqual(told, f"{len(won)} {len(lost)}")
                self.assertTrue(desk.yard == yard)
                self.assertEqual(desk.say("size"), str(len(yard)))


if __name__ == "__main__":
    unittest.main()
