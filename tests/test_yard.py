"""Points 2, 3 (i), 31, 32 and 33: a yard, beside one that is put together anew at each step."""

import itertools
import random
import unittest
from unittest import mock

from tests.helper import (
    PlainYard, great_webs, is_plain_paper, lacks, least_walks, look, make_web, no_numbers, odd_things, plain_fails,
    plain_lacking, plain_marks, plain_web, some_asks, some_deed, some_value, sparse_webs)
from woundwalks.answers import answer
from woundwalks.errors import (
    Full, LastArm, Loose, NoArm, NoArms, NoAsk, NoBack, NoCrossing, NoGoals, NoName, NoPost, NoSize, NoWord, PostThere,
    WalkError)
from woundwalks.marks import marks
from woundwalks.worst import shows_worst, worst
from woundwalks.yard import Yard

WEB = (3, ((0, "a", (1, 2)), (1, "b", (2,)), (2, "b", (0, 1))))
WINNING = ("put", "strike", "settle")
LOSING = ("take", "widen")


def yard_of(web, word=(), goals=None):
    """A yard with this web, put up post by post."""
    yard = Yard(web[0], word=word, goals=goals)
    for post in web[1]:
        yard.put(*post)
    return yard


def state(yard):
    """All that can be seen of a yard, as a text; what can be taken back is tried on a copy."""
    told = [yard.web(), yard.its_word(), yard.its_goals(), yard.marks(), len(yard)]
    other = yard.copied()
    while len(other):
        told += [other.back(), other.web(), other.its_word(), other.its_goals()]
    return look(told)


def brief(yard):
    return look((yard.web(), yard.its_word(), yard.its_goals(), len(yard)))


class Compared(unittest.TestCase):
    def refused(self, error, values, call, *args, **named):
        with self.assertRaises(WalkError) as caught:
            call(*args, **named)
        self.assertIs(type(caught.exception), error)
        held = vars(caught.exception)
        self.assertEqual(list(held), list(values))
        for name, value in values.items():
            self.assertIs(held[name], value)

    def do(self, yard, plain, deed, args, named=None):
        """The deed at both; told is its name, or the class of what it's refused by."""
        before = look((args, named))
        due = plain.due(deed, args, **(named or {}))
        if due:
            kept = brief(yard)
            self.refused(due[0], due[1], getattr(yard, deed), *args, **(named or {}))
            self.assertEqual(brief(yard), kept)
            self.assertEqual(look((args, named)), before)
            return due[0]
        told = getattr(yard, deed)(*args, **(named or {}))
        won, lost = plain.do(deed, args, **(named or {}))
        self.assertEqual(look(told), look((won, lost)), (deed, args, named))
        if deed in WINNING:
            self.assertEqual(lost, ())
        if deed in LOSING:
            self.assertEqual(won, ())
        self.same(yard, plain)
        self.assertEqual(look((args, named)), before)
        return deed

    def same(self, yard, plain):
        self.assertEqual(look(yard.web()), look(plain.web()))
        self.assertTrue(plain_web(yard.web()))
        self.assertEqual(look((yard.its_word(), yard.its_goals())), look((plain.word, plain.goals)))
        self.assertEqual(look(yard.marks()), look(tuple(sorted(plain.marked()))))
        self.assertEqual(len(yard), len(plain.was))


class TestDeeds(Compared):
    def test_a_told_one(self):
        yard = Yard(3, word=("a", "b"))
        self.assertEqual((yard.web(), yard.its_word(), yard.its_goals(), len(yard)), ((3, ()), ("a", "b"), None, 0))
        self.assertEqual(yard.marks(), ((0, 2), (1, 2), (2, 2)))
        self.assertEqual(yard.put(0, "a", (1, 2)), ((), ()))
        self.assertEqual(yard.put(1, "b", (2,)), (((1, 1),), ()))
        self.assertEqual(yard.put(2, "b", (0, 1)), (((0, 0), (2, 1)), ()))
        self.assertEqual(yard.web(), WEB)
        self.assertEqual(yard.take(1, "b"), ((), ((0, 0), (1, 1))))
        self.assertEqual(yard.settle(0, "a", 2), (((0, 0),), ()))
        self.assertEqual(yard.widen(0, "a", 0), ((), ((0, 0),)))
        self.assertEqual(yard.strike(0, "a", 0), (((0, 0),), ()))
        self.assertEqual(yard.turn_to(("b",), goals=(1,)), (((1, 1),), ((0, 0), (0, 2), (1, 2), (2, 1), (2, 2))))
        self.assertEqual((yard.its_word(), yard.its_goals(), len(yard)), (("b",), (1,), 8))
        self.assertEqual(yard.back(), (((0, 0), (0, 2), (1, 2), (2, 1), (2, 2)), ((1, 1),)))
        self.assertEqual(len(yard), 7)
        for _ in range(4):
            yard.back()
        self.assertEqual((yard.web(), len(yard)), (WEB, 3))
        self.assertEqual(yard.back(), ((), ((0, 0), (2, 1))))

    def test_a_new_one(self):
        for n in (0, 1, 2, 39, 40):
            yard = Yard(n)
            self.assertEqual((yard.web(), yard.its_word(), yard.its_goals(), len(yard)), ((n, ()), (), None, 0))
            self.assertEqual(yard.marks(), tuple((c, 0) for c in range(n)))
            self.assertEqual(yard.worst(), ())
            for goals in (None, (), (n - 1,) if n else (), tuple(range(n))):
                yard = Yard(goals=goals, word=("a",) * 12, n=n)
                self.same(yard, PlainYard(n, ("a",) * 12, goals))
        with self.assertRaises(TypeError):
            Yard(3, ("a",))
        with self.assertRaises(TypeError):
            Yard(3).turn_to(("a",), None)

    def test_by_names(self):
        yard = Yard(n=3)
        yard.put(arms=(0, 2), name="a", crossing=1)
        yard.widen(arm=1, name="a", crossing=1)
        yard.strike(arm=0, name="a", crossing=1)
        self.assertEqual(yard.web(), (3, ((1, "a", (1, 2)),)))
        yard.settle(arm=2, name="a", crossing=1)
        self.assertEqual(yard.web(), (3, ((1, "a", (2,)),)))
        yard.turn_to(goals=(2,), word=("a",))
        self.assertEqual(yard.answer(ask=("from", 1))[:2], ("sure", 1))
        yard.turn_to(word=("a",))
        self.assertEqual((yard.its_word(), yard.its_goals()), (("a",), None))
        yard.take(name="a", crossing=1)
        self.assertEqual(yard.web(), (3, ()))
        self.assertEqual(yard.tried(look=lambda one: one.web()), (3, ()))
        self.assertEqual(len(yard), 7)

    def test_turn_to_with_goals_and_without(self):
        yard = yard_of(WEB, ("a",), (1,))
        for word, named in ((("b",), {}), (("b",), {"goals": (0,)}), (("b",), {"goals": None}), (("b",), {"goals": ()}),
                            ((), {}), (("a", "b"), {"goals": (0, 1, 2)})):
            plain = PlainYard.beside(yard)
            self.do(yard, plain, "turn_to", (word,), named)
            self.assertEqual(yard.its_goals(), named.get("goals"))

    def test_deeds_that_change_nothing_count(self):
        yard = yard_of(WEB, ("a", "b"))
        self.assertEqual(yard.settle(1, "b", 2), ((), ()))
        self.assertEqual(yard.turn_to(("a", "b")), ((), ()))
        self.assertEqual((yard.web(), len(yard)), (WEB, 5))
        self.assertEqual(yard.back(), ((), ()))
        self.assertEqual(yard.back(), ((), ()))
        self.assertEqual((yard.web(), len(yard)), (WEB, 3))

    def test_the_last_way_out_of_a_ring(self):
        # From 1 one comes round to 1 by "b" and "a" and winds back, on and on; out by "c" alone.
        web = make_web(3, {(0, "a"): (1,), (1, "b"): (0,), (1, "c"): (2,)})
        ring = ((0, 0), (0, 2), (1, 1), (1, 3))
        yard = yard_of(web, tuple("abac"), (2,))
        self.assertEqual(yard.marks(), tuple(sorted((*ring, (2, 4)))))
        self.assertEqual(yard.take(1, "c"), ((), ring))
        self.assertEqual(yard.put(1, "c", (2,)), (ring, ()))
        self.assertEqual(yard.widen(1, "c", 0), ((), ring))
        self.assertEqual(yard.strike(1, "c", 0), (ring, ()))
        self.assertEqual(yard.back(), ((), ring))
        self.assertEqual(yard.settle(1, "c", 2), (ring, ()))
        self.assertEqual(yard.turn_to(tuple("abac"), goals=(0,)), (((0, 4),), tuple(sorted((*ring, (2, 4))))))
        # A post whose arms come round to itself.
        yard = yard_of(make_web(2, {(0, "a"): (0,)}), ("a", "a"), (0,))
        self.assertEqual(yard.marks(), ((0, 0), (0, 1), (0, 2)))
        self.assertEqual(yard.widen(0, "a", 1), ((), ((0, 0), (0, 1))))
        self.assertEqual(yard.strike(0, "a", 1), (((0, 0), (0, 1)), ()))

    def test_rows_of_deeds_by_chance(self):
        rng = random.Random(31)
        seen = {}
        for _ in range(60):
            n = rng.randint(1, 4)
            word = tuple(rng.choice("ab") for _ in range(rng.randint(0, 5)))
            goals = rng.choice((None, None, (0,), tuple(range(n))))
            yard, plain = Yard(n, word=word, goals=goals), PlainYard(n, word, goals)
            for _ in range(60):
                deed, args, named = some_deed(rng, plain, "ab")
                told = self.do(yard, plain, deed, args, named)
                seen[told] = seen.get(told, 0) + 1
            while plain.was:
                self.do(yard, plain, "back", ())
            self.assertEqual((yard.web(), yard.its_word(), yard.its_goals()), ((n, ()), word, goals))
            self.refused(NoBack, {}, yard.back)
        for told in (*WINNING, *LOSING, "turn_to", "back", PostThere, NoPost, NoArm, NoArms, LastArm):
            self.assertGreater(seen.get(told, 0), 15, told)

    def test_it_tells_all_as_a_new_one(self):
        rng = random.Random(32)
        for _ in range(20):
            n = rng.randint(1, 3)
            yard, plain = Yard(n, word=("a", "b", "a")), PlainYard(n, ("a", "b", "a"))
            for _ in range(40):
                self.do(yard, plain, *some_deed(rng, plain, "ab"))
            new = yard_of(yard.web(), yard.its_word(), yard.its_goals())
            self.assertEqual(look((new.web(), new.marks())), look((yard.web(), yard.marks())))
            self.assertTrue(new == yard)
            self.check_worst(yard)
            for ask in some_asks(yard.web()):
                self.check_answer(yard, ask)

    def check_worst(self, yard):
        web, word, goals = yard.web(), yard.its_word(), yard.its_goals()
        world = yard.worst()
        self.assertTrue(all(arm in post[2] for arm, post in zip(world, web[1])) and len(world) == len(web[1]))
        self.assertEqual(set(least_walks(web, world, word, goals)), plain_marks(web, word, goals))
        self.assertEqual(shows_worst(web, word, worst(web, word, goals=goals), goals=goals), True)

    def check_answer(self, yard, ask):
        web, word = yard.web(), yard.its_word()
        kind = {"somewhere": "steady", "into": "late"}.get(ask[0], "firm")
        row = plain_lacking(word, kind)
        if row is not None:
            with self.assertRaises(Loose) as caught:
                yard.answer(ask)
            self.assertEqual(vars(caught.exception), {"kind": kind, "row": row})
            self.assertTrue(lacks(word, kind, row))
            return "loose"
        told, beside = yard.answer(ask), answer(web, word, ask)
        self.assertEqual(told[:1], beside[:1])
        if told[0] == "not":
            self.assertTrue(plain_fails(web, told[1], word, ask))
        else:
            self.assertEqual(told[1], beside[1])
            goals = ask[1] if ask[0] == "into" else None
            self.assertTrue(is_plain_paper(web, word, goals, told[2]))
            self.assertIn((told[1], 0), [row[:2] for row in told[2]])
        return told[0]

    def test_worst_and_answer_beside_those_of_its_web(self):
        rng = random.Random(33)
        seen = set()
        for _ in range(12):
            yard = Yard(3, word=rng.choice(((), ("a",), ("a", "b"), ("a", "a", "b"), ("a", "b", "b"))), goals=(0, 2))
            plain = PlainYard.beside(yard)
            for _ in range(14):
                self.do(yard, plain, *some_deed(rng, plain, "ab"))
                self.check_worst(yard)
            for ask in some_asks(yard.web()):
                seen.add((ask[0], self.check_answer(yard, ask)))
        self.assertGreater(len(seen), 9)

    def test_goals_are_let_be_by_answers(self):
        yard = yard_of(WEB, ("a", "b"), ())
        self.assertEqual(yard.marks(), ())
        self.assertEqual(yard.answer(("from", 0))[:2], ("sure", 0))
        self.assertEqual(yard.answer(("into", (0, 1, 2)))[:2], ("sure", 0))
        self.assertEqual((yard.its_goals(), len(yard)), ((), 3))

    def test_great_webs(self):
        rng = random.Random(34)
        for web, word, goals in (great_webs() + sparse_webs())[3::23]:
            yard = Yard(40, word=word, goals=goals)
            ahead = set(yard.marks())
            for number, post in enumerate(web[1]):
                told = yard.put(*post)
                now = set(yard.marks())
                self.assertEqual(told, (tuple(sorted(now - ahead)), ()))
                self.assertEqual(len(yard), number + 1)
                ahead = now
            self.assertEqual(yard.web(), web)
            self.assertEqual(now, plain_marks(web, word, goals))
            plain = PlainYard(40, word, goals)
            plain.posts = {post[:2]: post[2] for post in web[1]}
            plain.was = [None] * 120
            (at, name, arms), post = rng.sample(web[1], 2)
            fewer = arms[1:] or arms
            other = min(set(range(40)) - set(fewer))
            for deed, args in (("take", (at, name)), ("put", (at, name, fewer)), ("widen", (at, name, other)),
                               ("strike", (at, name, other)), ("settle", (*post[:2], post[2][-1])), ("back", ()),
                               ("turn_to", (word[::-1],)), ("back", ()), ("back", ())):
                self.assertEqual(self.do(yard, plain, deed, args), deed)
            self.check_worst(yard)
            while len(yard):
                yard.back()
            self.assertEqual((yard.web(), yard.its_word(), yard.its_goals()), ((40, ()), word, goals))

    def test_many_deeds_are_all_taken_back(self):
        yard = Yard(2, word=("a",))
        for number in range(400):
            yard.put(0, "a", (1,))
            yard.take(0, "a")
            self.assertEqual(len(yard), 2 * number + 2)
        for number in range(800):
            self.assertEqual(yard.back(), (((0, 0),), ()) if number % 2 == 0 else ((), ((0, 0),)))
        self.refused(NoBack, {}, yard.back)
        self.assertEqual(len(yard), 0)

    def test_two_yards_are_apart(self):
        one, other = Yard(2), Yard(2)
        one.put(0, "a", (1,))
        self.assertEqual((other.web(), len(other)), ((2, ()), 0))
        self.refused(NoBack, {}, other.back)


class TestRefusals(Compared):
    def test_the_yard_itself(self):
        for thing in no_numbers(41):
            self.refused(NoSize, {"n": thing}, Yard, thing)
            self.refused(NoSize, {"n": thing}, Yard, thing, word=thing, goals=0)
        for thing in odd_things() + ["ab", ["a"], ("A",), ("abcdefg",), ("a",) * 13, ("a", ""), ("a", b"b"), ("a", None)]:
            if type(thing) is tuple and len(thing) == 0:
                continue
            self.refused(NoWord, {"word": thing}, Yard, 3, word=thing)
            self.refused(NoWord, {"word": thing}, Yard, 3, word=thing, goals=thing)
        for thing in odd_things() + [(3,), (-1,), (1, 0), (1, 1), [0], (0, True), 0, (0, 1, 2, 3), ((0,),), ("0",)]:
            if thing is not None and not (type(thing) is tuple and not thing):
                self.refused(NoGoals, {"goals": thing}, Yard, 3, goals=thing)
                self.refused(NoGoals, {"goals": thing}, Yard, 3, word=("a",) * 12, goals=thing)
        goals = (0,)
        self.refused(NoGoals, {"goals": goals}, Yard, 0, goals=goals)

    def test_each_refusal_alone(self):
        yard = yard_of(WEB, ("a", "b"), (1,))
        kept = state(yard)
        for deed, args in (("put", ((0,),)), ("take", ()), ("widen", (0,)), ("strike", (1,)), ("settle", (1,))):
            call = getattr(yard, deed)
            for thing in no_numbers(3):
                self.refused(NoCrossing, {"crossing": thing}, call, thing, "a", *args)
            for thing in odd_things() + ["", "A", "abcdefg", "a b", "1", "aB", ("a",), b"a", " a", "a\n"]:
                if not (type(thing) is str and thing == "a"):
                    self.refused(NoName, {"name": thing}, call, 0, thing, *args)
            if deed != "put":
                self.refused(NoPost, {}, call, 0, "b", *args)
                self.refused(NoPost, {}, call, 0, "aa", *args)
        self.refused(PostThere, {}, yard.put, 0, "a", (0,))
        for thing in odd_things() + [(1, 0), (0, 0), (3,), (-1,), (0, 1, 2, 3), [0], (True,), (0, None), 0, ("0",), ((0,),)]:
            self.refused(NoArms, {"arms": thing}, yard.put, 0, "b", thing)
        for thing in no_numbers(3) + [1, 2]:
            self.refused(NoArm, {"arm": thing}, yard.widen, 0, "a", thing)
        for thing in no_numbers(3) + [0]:
            self.refused(NoArm, {"arm": thing}, yard.strike, 0, "a", thing)
            self.refused(NoArm, {"arm": thing}, yard.settle, 0, "a", thing)
        self.refused(LastArm, {}, yard.strike, 1, "b", 2)
        for thing in odd_things():
            if not (type(thing) is tuple and not thing):
                self.refused(NoWord, {"word": thing}, yard.turn_to, thing)
                self.refused(NoWord, {"word": thing}, yard.turn_to, thing, goals=thing)
                if thing is not None:
                    self.refused(NoGoals, {"goals": thing}, yard.turn_to, ("a",), goals=thing)
        self.assertEqual(state(yard), kept)

    def test_where_several_are_due_the_first_named(self):
        """Things of any kind in each place, good ones and bad ones, beside point 32 to the letter."""
        rng = random.Random(35)
        seen = {}
        for _ in range(40):
            n = rng.choice((0, 1, 2, 3, 9, 12))
            yard = Yard(n)
            plain = PlainYard(n)
            for _ in range(150):
                deed = rng.choice(("put", "put", "take", "widen", "widen", "strike", "settle", "turn_to", "back"))
                args, named = (), {}
                if deed == "turn_to":
                    args = (some_value(rng, plain, "word"),)
                    named = {"goals": some_value(rng, plain, "goals")} if rng.random() < 0.7 else {}
                elif deed != "back":
                    args = (some_value(rng, plain, "crossing"), some_value(rng, plain, "name"))
                    if deed != "take":
                        args += (some_value(rng, plain, "arms" if deed == "put" else "arm"),)
                told = self.do(yard, plain, deed, args, named)
                seen[deed, told] = seen.get((deed, told), 0) + 1
        for pair in itertools.chain(
                itertools.product(("put",), (NoCrossing, NoName, PostThere, NoArms, "put")),
                itertools.product(("take",), (NoCrossing, NoName, NoPost, "take")),
                itertools.product(("widen",), (NoCrossing, NoName, NoPost, NoArm, "widen")),
                itertools.product(("strike",), (NoCrossing, NoName, NoPost, NoArm, LastArm, "strike")),
                itertools.product(("settle",), (NoCrossing, NoName, NoPost, NoArm, "settle")),
                itertools.product(("turn_to",), (NoWord, NoGoals, "turn_to")),
                itertools.product(("back",), (NoBack, "back"))):
            self.assertGreater(seen.get(pair, 0), 3, pair)

    def test_120_posts_and_one_more(self):
        yard = Yard(40, word=("a",))
        for crossing, name in itertools.product(range(40), ("a", "b", "c")):
            self.assertEqual(len(yard.web()[1]), len(yard))
            yard.put(crossing, name, (0,))
        kept = brief(yard)
        self.refused(Full, {}, yard.put, 0, "d", (0,))
        self.refused(Full, {}, yard.put, 39, "d", tuple(range(8)))
        # What is named ahead of it is told all the same.
        bad = (1, 0)
        self.refused(NoArms, {"arms": bad}, yard.put, 0, "d", bad)
        self.refused(PostThere, {}, yard.put, 0, "a", bad)
        self.refused(NoName, {"name": "D"}, yard.put, 0, "D", bad)
        self.refused(NoCrossing, {"crossing": bad}, yard.put, bad, "D", bad)
        self.assertEqual(brief(yard), kept)
        yard.take(7, "b")
        self.assertEqual(len(yard.web()[1]), 119)
        yard.put(0, "d", (0,))
        self.refused(Full, {}, yard.put, 7, "b", (0,))
        yard.widen(0, "a", 1)
        self.assertEqual((len(yard.web()[1]), len(yard)), (120, 123))

    def test_eight_arms_and_one_more(self):
        yard = Yard(12)
        yard.put(0, "a", (3,))
        for arm in (5, 0, 11, 1, 4, 2, 10):
            yard.widen(0, "a", arm)
        self.assertEqual(yard.web(), (12, ((0, "a", (0, 1, 2, 3, 4, 5, 10, 11)),)))
        kept = brief(yard)
        self.refused(Full, {}, yard.widen, 0, "a", 6)
        for arm in (5, 12, -1, True, None):
            self.refused(NoArm, {"arm": arm}, yard.widen, 0, "a", arm)
        self.assertEqual(brief(yard), kept)
        yard.strike(0, "a", 10)
        yard.widen(0, "a", 6)
        self.assertEqual(yard.web()[1][0][2], (0, 1, 2, 3, 4, 5, 6, 11))
        yard.put(1, "a", tuple(range(8)))
        for arms in (tuple(range(9)), tuple(range(12)), ()):
            self.refused(NoArms, {"arms": arms}, yard.put, 2, "a", arms)
        for arm in (0, 1, 2, 3, 4, 5, 6):
            yard.strike(0, "a", arm)
        self.refused(LastArm, {}, yard.strike, 0, "a", 11)
        arm = 400
        self.refused(NoArm, {"arm": arm}, yard.strike, 0, "a", arm)
        yard.settle(0, "a", 11)

    def test_answer(self):
        loose = yard_of(WEB, ("a", "a", "b"), (0,))
        yard = yard_of(WEB, ("a", "b"), (0,))
        kept = state(yard)
        bad = odd_things() + [
            ("somewhere", 0), ("from",), ("from", 3), ("from", True), ("from", (0,)), ("into", 0), ("into", [0]),
            ("into", (1, 0)), ("into", None), ("among", (3,)), ("among", (0, 0)), ("among",), ("else", (0,)), "somewhere",
            ["somewhere"], ("from", 0, 0), (("from", 0),), ("into", (0, True))]
        for thing in bad:
            self.refused(NoAsk, {"ask": thing}, yard.answer, thing)
            self.refused(NoAsk, {"ask": thing}, loose.answer, thing)
        with self.assertRaises(Loose) as caught:
            loose.answer(("from", 0))
        self.assertEqual(vars(caught.exception), {"kind": "firm", "row": ("a", "a", "a", "b")})
        self.assertEqual(state(yard), kept)

    def test_no_back(self):
        yard = Yard(1)
        self.refused(NoBack, {}, yard.back)
        yard.put(0, "a", (0,))
        yard.back()
        self.refused(NoBack, {}, yard.back)
        self.assertEqual(len(yard), 0)


class Hurt(Exception):
    pass


class TestTried(Compared):
    def yards(self):
        rng = random.Random(36)
        for _ in range(12):
            yard = Yard(3, word=("a", "b"), goals=rng.choice((None, (0,), (0, 1, 2))))
            plain = PlainYard.beside(yard)
            for _ in range(rng.randint(0, 25)):
                self.do(yard, plain, *some_deed(rng, plain, "ab"))
            yield rng, yard

    def test_deeds_are_undone(self):
        for rng, yard in self.yards():
            kept = state(yard)

            def look_at(one):
                self.assertIs(one, yard)
                plain = PlainYard.beside(one)
                for _ in range(12):
                    self.do(one, plain, *some_deed(rng, plain, "ab"))
                return state(one)

            self.assertIsInstance(yard.tried(look_at), str)
            self.assertEqual(state(yard), kept)

    def test_more_is_taken_back_than_was_done(self):
        for rng, yard in self.yards():
            kept, many = state(yard), len(yard)

            def all_back(one):
                if many:
                    one.back()
                one.turn_to(("b",), goals=(1,))
                while len(one):
                    one.back()
                one.put(0, "zz", (0, 1))
                return one.web(), len(one)

            self.assertEqual(yard.tried(all_back), ((3, ((0, "zz", (0, 1)),)), 1))
            self.assertEqual(state(yard), kept)

    def test_a_look_into_a_look(self):
        for rng, yard in self.yards():
            kept = state(yard)

            def inner(one):
                while len(one):
                    one.back()
                return one.put(2, "c", (0,)), len(one)

            def outer(one):
                one.turn_to(("c",))
                ahead = state(one)
                told = one.tried(inner)
                self.assertEqual(state(one), ahead)
                one.back()
                self.assertEqual(state(one), kept)
                one.tried(lambda two: two.tried(lambda three: three.turn_to(())))
                self.assertEqual(state(one), kept)
                one.turn_to(())
                return told

            self.assertEqual(yard.tried(outer), ((((2, 0),) if yard.its_word()[:1] == ("c",) else (), ()), 1))
            self.assertEqual(state(yard), kept)

    def test_what_it_tells_is_told(self):
        yard = Yard(2)
        for thing in odd_things() + [yard]:
            self.assertIs(yard.tried(lambda one: thing), thing)
        self.assertIs(yard.tried(lambda one: one), yard)
        self.assertEqual(yard.tried(Yard.marks), ((0, 0), (1, 0)))
        self.assertEqual(yard.tried(len), 0)

    def test_what_is_raised_goes_on(self):
        for rng, yard in self.yards():
            kept = state(yard)
            for error in (Hurt, ZeroDivisionError, KeyError, StopIteration, KeyboardInterrupt, SystemExit, NoArm, Full):
                made = error(3) if error is NoArm else error()

                def raising(one):
                    one.turn_to(("a",) * 12)
                    one.back()
                    if len(one):
                        one.back()
                    one.turn_to(("b",))
                    raise made

                with self.assertRaises(error) as caught:
                    yard.tried(raising)
                self.assertIs(caught.exception, made)
                self.assertEqual(state(yard), kept)

            def refused_at_last(one):
                one.turn_to(("b",))
                one.put(0, "q", (0,))
                one.put(0, "q", (0,))

            self.refused(PostThere, {}, yard.tried, refused_at_last)
            self.assertEqual(state(yard), kept)

            def outer(one):
                one.turn_to(("q",))
                with self.assertRaises(PostThere):
                    one.tried(refused_at_last)
                self.assertEqual((one.its_word(), len(one)), (("q",), len(yard)))
                raise Hurt

            self.assertRaises(Hurt, yard.tried, outer)
            self.assertEqual(state(yard), kept)

    def test_copies_made_by_a_look_stay(self):
        yard = yard_of(WEB, ("a", "b"))
        kept = state(yard)

        def copying(one):
            one.take(0, "a")
            other = one.copied()
            one.take(1, "b")
            other.turn_to(("b",))
            return other

        other = yard.tried(copying)
        self.assertEqual(state(yard), kept)
        self.assertEqual((other.web(), other.its_word(), len(other)), ((3, WEB[1][1:]), ("b",), 5))
        other.back()
        other.back()
        self.assertEqual((other.web(), len(other)), (WEB, 3))
        self.assertEqual(state(yard), kept)

    def test_great_webs(self):
        web, word, goals = great_webs()[-1]
        yard = yard_of(web, word, goals)
        kept = look((yard.web(), yard.marks(), len(yard)))

        def look_at(one):
            for post in web[1][::7]:
                one.take(*post[:2])
            while len(one) > 3:
                one.back()
            return one.marks()

        self.assertEqual(yard.tried(look_at), marks((40, web[1][:3]), word, goals=goals))
        self.assertEqual(look((yard.web(), yard.marks(), len(yard))), kept)


class TestCopied(Compared):
    def test_led_on_by_themselves(self):
        rng = random.Random(37)
        for _ in range(15):
            one = Yard(3, word=("a", "b"))
            plain = PlainYard.beside(one)
            for _ in range(15):
                self.do(one, plain, *some_deed(rng, plain, "ab"))
            kept = state(one)
            other = one.copied()
            self.assertIs(type(other), Yard)
            self.assertIsNot(other, one)
            self.assertEqual(state(other), kept)
            beside = plain.copied()
            for _ in range(20):
                self.do(other, beside, *some_deed(rng, beside, "ab"))
                self.same(one, plain)
            self.assertEqual(state(one), kept)
            while beside.was:
                self.do(other, beside, "back", ())
            self.assertEqual(state(one), kept)
            for _ in range(10):
                self.do(one, plain, *some_deed(rng, plain, "ab"))
            while plain.was:
                self.do(one, plain, "back", ())
            self.assertEqual((other.web(), len(other)), (one.web(), 0))

    def test_a_copy_of_one_within_a_look_has_all_that_can_be_taken_back(self):
        yard = yard_of(WEB, ("a", "b"))
        other = yard.tried(lambda one: (one.turn_to(("b",)), one.copied())[1])
        self.assertEqual((len(yard), len(other)), (3, 4))


class TestEqual(unittest.TestCase):
    def equal(self, one, other, told):
        for left, right in ((one, other), (other, one)):
            self.assertIs(left == right, told)
            self.assertIs(left != right, not told)

    def test_other_deeds_that_came_to_the_same(self):
        one = yard_of(WEB, ("a", "b"), (0,))
        other = Yard(3)
        other.put(2, "b", (1,))
        other.put(0, "a", (0, 1))
        other.widen(2, "b", 0)
        other.strike(0, "a", 0)
        self.equal(one, other, False)
        other.put(1, "b", (0, 2))
        other.settle(1, "b", 2)
        other.turn_to(("a", "b"), goals=(0,))
        self.equal(one, other, False)
        other.widen(0, "a", 2)
        self.equal(one, other, True)
        self.assertNotEqual(len(one), len(other))
        other.back()
        self.equal(one, other, False)

    def test_web_word_and_goals(self):
        yard = yard_of(WEB, ("a", "b"), (0,))
        self.equal(yard, yard, True)
        self.equal(yard, yard.copied(), True)
        self.equal(yard, yard_of(WEB, ("a", "b"), (1,)), False)
        self.equal(yard, yard_of(WEB, ("a",), (0,)), False)
        self.equal(yard, yard_of((3, WEB[1][1:]), ("a", "b"), (0,)), False)
        self.equal(yard, yard_of((4, WEB[1]), ("a", "b"), (0,)), False)
        self.equal(yard_of(WEB, ("a", "b")), yard_of(WEB, ("a", "b"), (0, 1, 2)), False)
        self.equal(Yard(0), Yard(0, goals=()), False)
        self.equal(Yard(0), Yard(0), True)
        self.equal(Yard(1), Yard(0), False)
        # With the same marks, too.
        self.equal(Yard(2, word=("a",), goals=()), Yard(2, word=("b",), goals=()), False)

    def test_nothing_else(self):
        yard = yard_of(WEB, ("a", "b"), (0,))
        for thing in odd_things() + [WEB, (WEB, ("a", "b"), (0,)), yard.web, Yard, mock.ANY, len(yard), yard.marks()]:
            self.assertIs(yard == thing, False)
            self.assertIs(yard != thing, True)

    def test_looking_changes_nothing(self):
        one, other = yard_of(WEB, ("a", "b")), yard_of(WEB, ("a", "b"))
        kept = state(one)
        self.assertTrue(one == other)
        self.assertEqual((state(one), state(other)), (kept, kept))


if __name__ == "__main__":
    unittest.main()
