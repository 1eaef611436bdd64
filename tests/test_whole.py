"""Point 3, part by part, over the whole program: functions beside one another, yards, tables and desks beside them."""

import itertools
import random
import unittest

from tests.helper import (
    KINDS, SHORT_WORDS, SMALL_WORDS, PlainYard, great_tables, great_webs, lacks, look, make_web, plain_asked_places,
    plain_courses, plain_fails, plain_gone, plain_keepings, plain_reads, plain_walks, rows_of, small_askers, small_cases,
    small_tables, small_webs, some_asks, some_deed, some_goals, some_paper, some_world, worlds_of)
from woundwalks.answerlooks import shows_answer
from woundwalks.answers import answer, by_worlds, share
from woundwalks.asked import asked, freed
from woundwalks.askers import asker_of
from woundwalks.asking import asked_marks, asked_places, asked_worst, shows_asked
from woundwalks.asks import fails
from woundwalks.beside import common, knows_more, narrowed
from woundwalks.desk import Desk
from woundwalks.errors import Clash, Loose, NotMarked, Unsettled
from woundwalks.gaps import gap
from woundwalks.keepings import chain, count_keepings, keeping_at
from woundwalks.kindlooks import shows_kind
from woundwalks.kinds import is_kind, kind_paper, lacking
from woundwalks.leadings import is_leading, led
from woundwalks.marklooks import shows_marks
from woundwalks.marks import marks, marks_paper, round_of
from woundwalks.reading import read_paper, read_row, read_web, read_world
from woundwalks.settled import asked_somewhere, unsettled
from woundwalks.showing import show_paper, show_row, show_web, show_world
from woundwalks.support import held_to, support
from woundwalks.tables import clashes, keys_of, web_of
from woundwalks.walkers import Walker
from woundwalks.walks import wound_places, wound_walk
from woundwalks.webs import arms_of
from woundwalks.winding import count_wound, is_wound, wound_at, wound_rows
from woundwalks.words import is_word
from woundwalks.worlds import count_worlds, gone, world_at
from woundwalks.worst import shows_worst, worst
from woundwalks.yard import Yard

ODD_WORDS = tuple(map(tuple, ("abba", "aabaa", "abaab", "abbab")))


def yard_of(web, word, goals):
    yard = Yard(web[0], word=word, goals=goals)
    for post in web[1]:
        yard.put(*post)
    return yard


def desk_of(web, word, goals):
    desk = Desk(web[0])
    for line in show_web(web).split("\n")[1:]:
        desk.say(f"put {line}")
    if goals is None:
        desk.say(f"word {show_row(word)}")
    else:
        desk.say(" ".join(["into", *map(str, goals), ":", show_row(word)]))
    return desk


def ended(walker, arms_shown):
    """Whether the walker has ended well behind so many comings, the arms being chosen so."""
    while walker.wants() is not None:
        walker.come(arms_shown(walker))
    return len(walker.walk())


class TestMarksAndWorlds(unittest.TestCase):
    def test_a_marked_just_where_in_every_world_a_walk_ends_well(self):
        marked = bare = 0
        for web, word, goals in itertools.islice(small_cases(50), 0, None, 2):
            if len(worlds_of(web)) > 8:
                continue
            told = set(marks(web, word, goals=goals))
            pairs = set(itertools.product(range(web[0]), range(len(word) + 1)))
            in_all = pairs.intersection(*(wound_places(web, world, word, goals=goals) for world in worlds_of(web)))
            self.assertEqual(told, in_all)
            for crossing, place in sorted(pairs):
                # By walks of at most so many steps, tried one by one; a shortest one has no more.
                if len(word) <= 2:
                    walked = all(any(plain_walks(web, world, word, crossing, place, goals, web[0] * len(word) + 1))
                                 for world in worlds_of(web))
                    self.assertEqual(walked, (crossing, place) in told)
                marked += (crossing, place) in told
                bare += (crossing, place) not in told
        self.assertGreater(min(marked, bare), 1000)

    def test_a_yards_and_desks_tell_the_same(self):
        for web, word, goals in itertools.islice(small_cases(50), 0, None, 5):
            told = marks(web, word, goals=goals)
            yard, desk = yard_of(web, word, goals), desk_of(web, word, goals)
            self.assertEqual(yard.marks(), told)
            self.assertEqual(desk.say("marks"), " ".join(f"{c}.{p}" for c, p in told) or "-")
            for crossing, place in itertools.product(range(web[0]), range(len(word) + 1)):
                number = round_of(web, word, crossing, place, goals=goals)
                self.assertEqual(number is not None, (crossing, place) in told)
                self.assertEqual(desk.say(f"round {crossing} {place}"), "none" if number is None else str(number))

    def test_b_the_worst_world_is_the_worst_for_all_places_at_once(self):
        for web, word, goals in itertools.islice(small_cases(50), 1, None, 3):
            told = marks(web, word, goals=goals)
            desk, yard = desk_of(web, word, goals), yard_of(web, word, goals)
            for world in (worst(web, word, goals=goals), yard.worst(), read_world(desk.say("worst"), web)):
                self.assertEqual(wound_places(web, world, word, goals=goals), told)
                self.assertIs(shows_worst(web, word, world, goals=goals), True)
                for other in worlds_of(web):
                    places = wound_places(web, other, word, goals=goals)
                    for place in range(len(word) + 1):
                        self.assertLessEqual(sum(at == place for _, at in told), sum(at == place for _, at in places))

    def test_c_a_walker_ends_well_from_marks_alone(self):
        rng = random.Random(3)
        for web, word, goals in [*itertools.islice(small_cases(50), 2, None, 3), *great_webs()[::9]]:
            told = marks(web, word, goals=goals)
            for crossing, place in rng.sample(told, min(3, len(told))):
                number = round_of(web, word, crossing, place, goals=goals)
                world = some_world(rng, web)
                for shown in (lambda one: rng.choice(arms_of(web, one.crossing, one.wants())),
                              lambda one: arms_of(web, one.crossing, one.wants())[-1],
                              lambda one: gone(web, world, one.crossing, (one.wants(),))[1]):
                    walker = Walker(web, word, crossing, place=place, goals=goals)
                    self.assertLessEqual(ended(walker, shown), number)
            bare = sorted(set(itertools.product(range(web[0]), range(len(word) + 1))) - set(told))
            world = worst(web, word, goals=goals)
            for crossing, place in rng.sample(bare, min(3, len(bare))):
                self.assertRaises(NotMarked, Walker, web, word, crossing, place=place, goals=goals)
                self.assertIsNone(wound_walk(web, world, word, crossing, place=place, goals=goals))


class TestAnswers(unittest.TestCase):
    def test_d_and_e_answers_beside_all_worlds(self):
        seen = {}
        for web in small_webs(40):
            worlds = worlds_of(web)
            for word in (*rows_of("ab", 2), *ODD_WORDS, ("a", "a", "b"), ("a", "b", "b")):
                yard, desk = yard_of(web, word, None), desk_of(web, word, None)
                for ask in some_asks(web):
                    failing = [number for number, world in enumerate(worlds) if plain_fails(web, world, word, ask)]
                    self.assertEqual(by_worlds(web, word, ask), ("not", failing[0]) if failing else ("sure",))
                    self.assertEqual(share(web, word, ask), (len(worlds) - len(failing), len(worlds)))
                    told = self.told(web, word, ask, yard, desk)
                    if told[0] != "loose":
                        self.assertEqual(told[0], "not" if failing else "sure")
                        self.assertIs(shows_answer(web, word, ask, told), True)
                    if told[0] == "not":
                        self.assertIs(fails(web, told[1], word, ask), True)
                    if told[0] == "sure" and ask[0] == "among":
                        self.assertEqual(by_worlds(web, word, ("from", told[1])), ("sure",))
                    seen[ask[0], told[0]] = True
        self.assertEqual(len(seen), 12)

    def told(self, web, word, ask, yard, desk):
        """The answer, by the function; a yard and a desk tell the same."""
        line = {"somewhere": "somewhere", "into": "reach"}.get(ask[0])
        line = line or " ".join([ask[0], *map(str, ask[1] if ask[0] == "among" else ask[1:])])
        if ask[0] == "into":
            desk.say(" ".join(["into", *map(str, ask[1]), ":", show_row(word)]))
        if line == "among":
            line = None
        try:
            told = answer(web, word, ask)
        except Loose as loose:
            self.assertRaises(Loose, yard.answer, ask)
            self.assertTrue(line is None or desk.say(line) == f"loose {show_row(loose.row)}")
            return ("loose", loose.row)
        self.assertEqual(yard.answer(ask), told)
        if line:
            self.assertEqual(desk.say(line), f"sure {told[1]}" if told[0] == "sure" else f"not {show_world(told[1])}")
        return told

    def test_d_marks_mislead_where_a_word_is_not_of_the_kind(self):
        many = 0
        for word, kind in itertools.product((*SMALL_WORDS, *rows_of("ab", 6)), KINDS):
            told = gap(word, kind)
            self.assertEqual(told is None, is_kind(word, kind))
            if told:
                web, ask = told
                self.assertEqual(count_worlds(web), 1)
                self.assertIn((0, 0), marks(web, word, goals=(web[0] - 1,)))
                self.assertIs(fails(web, world_at(web, 0), word, ask), True)
                self.assertIn("loose", desk_of(web, word, (web[0] - 1,)).say(
                    {"somewhere": "somewhere", "from": "from 0", "into": "reach"}[ask[0]]))
                many += 1
        self.assertGreater(many, 200)

    def test_f_wound_rows(self):
        for word in SMALL_WORDS[::2]:
            desk = desk_of((1, ()), word, None)
            for size in range(7):
                plain = sorted(row for row in itertools.product(sorted(set(word)), repeat=size) if plain_courses(word, row, 0))
                self.assertEqual(wound_rows(word, size), tuple(plain))
                self.assertEqual([wound_at(word, size, number) for number in range(len(plain))], plain)
                self.assertEqual((count_wound(word, size), desk.say(f"wound {size}")), (len(plain), str(len(plain))))
            told = []
            for kind in KINDS:
                row = lacking(word, kind)
                self.assertIs(shows_kind(word, kind, kind_paper(word, kind)), True)
                if row is None:
                    told.append(kind)
                    self.assertFalse(any(lacks(word, kind, one) for size in range(7) for one in wound_rows(word, size)))
                else:
                    self.assertTrue(lacks(word, kind, row) and is_wound(word, row))
                    shorter = [one for size in range(min(7, len(row))) for one in wound_rows(word, size)]
                    self.assertFalse(any(lacks(word, kind, one) for one in shorter))
            self.assertEqual(desk.say("kinds"), " ".join(told) or "-")


class TestAskers(unittest.TestCase):
    def test_g_asked_marks_beside_all_worlds(self):
        for web, asker in itertools.product(small_webs(24), small_askers(24)):
            for goals in some_goals(web)[::2]:
                told = set(asked_marks(web, asker, goals=goals))
                places = {world: plain_asked_places(web, world, asker, goals) for world in worlds_of(web)}
                self.assertEqual(told, set.intersection(*places.values()))
                world = asked_worst(web, asker, goals=goals)
                self.assertEqual(places[world], told)
                self.assertIs(shows_asked(web, asker, world, goals=goals), True)

    def test_g_a_word_is_an_asker(self):
        for web, word, goals in itertools.islice(small_cases(40), 0, None, 3):
            asker = asker_of(word)
            self.assertEqual(asked_marks(web, asker, goals=goals), marks(web, word, goals=goals))
            for world in worlds_of(web)[:3]:
                self.assertEqual(asked_places(web, world, asker, goals=goals), wound_places(web, world, word, goals=goals))

    def test_g_settled_ones_are_read_just_where_marks_say_so(self):
        seen = {}
        rows = list(rows_of("ab", 5))
        for asker in small_askers(40):
            plainly = [row for row in rows if plain_reads(asker, row, 0, True)]
            for web in small_webs(12):
                try:
                    told = asked_somewhere(web, asker)
                except Unsettled as refusal:
                    self.assertEqual(refusal.row, unsettled(asker))
                    seen["unsettled"] = True
                    continue
                self.assertIsNone(unsettled(asker))
                walked = {world: any(len(plain_gone(web, world, start, row)) > len(row)
                                     for row in plainly for start in range(web[0])) for world in worlds_of(web)}
                if told[0] == "not":
                    self.assertFalse(walked[told[1]])
                else:
                    self.assertEqual(told[1], min(crossing for crossing, stand in asked_marks(web, asker) if stand == 0))
                seen[told[0]] = True
                if all(walked.values()):
                    self.assertEqual(told[0], "sure")
        self.assertEqual(len(seen), 3)


class TestBeside(unittest.TestCase):
    def test_h_who_knows_more_loses_no_mark(self):
        for one, other in itertools.product(small_webs(30), repeat=2):
            if one[0] != other[0]:
                continue
            webs = [(one, common(one, other))]
            try:
                webs.append((narrowed(one, other), one))
            except Clash as clash:
                both = [set(arms_of(web, clash.crossing, clash.name)) for web in (one, other)]
                self.assertFalse(both[0] & both[1])
            for more, less in webs + [(one, other)] * knows_more(one, other):
                self.assertIs(knows_more(more, less), True)
                for word, goals in itertools.product(SHORT_WORDS[::4], some_goals(one)[::2]):
                    self.assertLessEqual(set(marks(less, word, goals=goals)), set(marks(more, word, goals=goals)))

    def test_h_marks_are_led_back(self):
        many = 0
        for web, other in itertools.product(small_webs(30), small_webs(60)[::-4]):
            for thing in itertools.product(range(other[0]), repeat=web[0]):
                if is_leading(web, other, thing):
                    many += 1
                    for word, goals in itertools.product(SHORT_WORDS[::5], some_goals(other)[1:]):
                        here = marks(web, word, goals=led(web, other, thing, goals))
                        there = marks(other, word, goals=goals)
                        self.assertLessEqual({(c, place) for c in range(web[0]) for place in range(len(word) + 1)
                                              if (thing[c], place) in there}, set(here))
        self.assertGreater(many, 100)

    def test_h_a_paper_holds_for_all_webs_that_know_more_of_its_posts(self):
        rng = random.Random(4)
        for web, word, goals in itertools.islice(small_cases(50), 0, None, 4):
            for paper in (marks_paper(web, word, goals=goals), some_paper(rng, web, word, goals, 5)):
                held = held_to(web, support(web, word, paper, goals=goals))
                more = make_web(web[0], {post[:2]: rng.sample(post[2], 1) for post in held[1]})
                for other in (held, more, web):
                    self.assertIs(knows_more(other, held), True)
                    self.assertIs(shows_marks(other, word, paper, goals=goals), True)
                    self.assertLessEqual({row[:2] for row in paper}, set(marks(other, word, goals=goals)))


class TestYards(unittest.TestCase):
    def test_i_behind_any_deeds_a_yard_tells_all_as_a_new_one(self):
        rng = random.Random(5)
        for _ in range(40):
            n = rng.randint(1, 4)
            yard, plain, desk = Yard(n), PlainYard(n), Desk(n)
            for _ in range(40):
                deed, args, named = some_deed(rng, plain, "ab")
                if plain.due(deed, args, **named):
                    continue
                ahead = set(yard.marks())
                won, lost = getattr(yard, deed)(*args, **named)
                plain.do(deed, args, **named)
                behind = set(yard.marks())
                self.assertEqual((set(won), set(lost)), (behind - ahead, ahead - behind))
                self.assertEqual(desk.say(self.line(deed, args, named)), f"{len(won)} {len(lost)}")
                self.assertTrue(deed not in ("put", "strike", "settle") or not lost)
                self.assertTrue(deed not in ("take", "widen") or not won)
                new = yard_of(plain.web(), plain.word, plain.goals)
                self.assertTrue(new == yard)
                self.assertEqual(yard.marks(), marks(plain.web(), plain.word, goals=plain.goals))
                self.assertEqual(new.marks(), yard.marks())
                self.assertEqual(new.worst(), yard.worst())
                self.assertEqual(read_web(desk.say("show").replace("/", "\n")), yard.web())

    def line(self, deed, args, named):
        if deed != "turn_to":
            arms = args[2] if deed == "put" else args[2:]
            return " ".join([deed, *map(str, args[:2]), *map(str, arms)])
        if named.get("goals") is None:
            return f"word {show_row(args[0])}"
        return " ".join(["into", *map(str, named["goals"]), ":", show_row(args[0])])


class TestTextsAndTables(unittest.TestCase):
    def test_j_what_is_written_is_read_as_it_was(self):
        rng = random.Random(6)
        for web, word, goals in [*itertools.islice(small_cases(60), 0, None, 3), *great_webs()]:
            self.assertEqual(look(read_web(show_web(web))), look(web))
            self.assertEqual(look(read_row(show_row(word))), look(word))
            self.assertTrue(is_word(read_row(show_row(word))))
            world = some_world(rng, web)
            self.assertEqual(look(read_world(show_world(world), web)), look(world))
            paper = marks_paper(web, word, goals=goals)
            self.assertEqual(look(read_paper(show_paper(paper))), look(paper))
            self.assertIs(shows_marks(web, word, read_paper(show_paper(paper)), goals=goals), True)

    def test_j_tables_are_told_as_their_webs_are(self):
        rng = random.Random(7)
        for table in small_tables(60) + great_tables():
            web, keys = web_of(table), keys_of(table)
            self.assertEqual(count_keepings(table), count_worlds(web))
            number = rng.randrange(count_worlds(web))
            keeping, world = keeping_at(table, number), world_at(web, number)
            if len(plain_keepings(table) if web[0] < 5 else ()):
                self.assertEqual(plain_keepings(table)[number], keeping)
            self.assertEqual([keys.index(last) for _, _, last in keeping], list(world))
            row = tuple(rng.choice("abc") for _ in range(6))
            for start in range(web[0]):
                self.assertEqual([keys.index(key) for key in chain(table, keeping, keys[start], row)],
                                 list(gone(web, world, start, row)))
            self.check_asks(table, web, keys)
            word = rng.choice(SHORT_WORDS)
            told = marks(web, word)
            for key, name in clashes(table):
                spot = keys.index(key), name
                settled = [make_web(web[0], {**{post[:2]: post[2] for post in web[1]}, spot: (arm,)})
                           for arm in arms_of(web, *spot)]
                stays = all(marks(one, word) == told for one in settled)
                self.assertEqual((key, name) in freed(table, word), stays)

    def check_asks(self, table, web, keys):
        for word in ((), ("a",), ("a", "b"), ("b", "a", "a")):
            asks = [("somewhere",), ("into", tuple(range(web[0]))), ("into", tuple(range(web[0]))[1:]),
                    ("among", tuple(range(web[0]))[::2]), *[("from", crossing) for crossing in range(web[0])[:3]]]
            for ask in asks:
                in_keys = (ask[0], *[tuple(keys[at] for at in part) if type(part) is tuple else keys[part]
                                     for part in ask[1:]])
                try:
                    told = answer(web, word, ask)
                except Loose as loose:
                    with self.assertRaises(Loose) as caught:
                        asked(table, word, in_keys)
                    self.assertEqual(vars(caught.exception), vars(loose))
                    continue
                beside = asked(table, word, in_keys)
                self.assertEqual(beside[0], told[0])
                if told[0] == "sure":
                    self.assertEqual(beside, ("sure", keys[told[1]]))
                else:
                    world = tuple(keys.index(last) for _, _, last in beside[1])
                    self.assertIs(fails(web, world, word, ask), True)


if __name__ == "__main__":
    unittest.main()
