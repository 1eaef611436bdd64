"""What the tests share: odd things, spoilt things, small and great words and webs, and plain
searches that follow the document's words and nothing else, against which the program is held."""

import functools
import itertools
import random

KINDS = ("firm", "late", "steady")


# Odd things

class Prickly:
    """Whoever compares, hashes, measures or walks through it, or asks it for its truth, is hurt."""

    def hurt(self, *told):
        raise RuntimeError("touched")

    __eq__ = __ne__ = __lt__ = __le__ = __gt__ = __ge__ = hurt
    __hash__ = __len__ = __iter__ = __bool__ = __getitem__ = __contains__ = hurt


def nested(make, depth):
    thing = make(())
    for _ in range(depth - 1):
        thing = make((thing,))
    return thing


def odd_things():
    """New ones each time, for some of them can be changed."""
    return [
        None, True, False, -1, -7, 10 ** 399, -(10 ** 399), "", "a", "-1", "0", "a b", "ab\n", "None",
        "x" * 20000, b"", b"a", [], [1], ["a"], [("a",)], {}, {"a": 1}, {0: 0}, set(), {1, 2}, frozenset((0,)),
        (), (None,), (True,), ([],), ((),), ("a", 1), (("a",), ("b",)), ({},), range(3), iter(()),
        len, int, tuple, object(), Ellipsis, NotImplemented, ValueError("x"), Prickly(), (Prickly(),),
        (Prickly(), Prickly()), ("so", Prickly()), nested(tuple, 20), nested(list, 20), (0,) * 3000, [0] * 3000,
        ("a",) * 3000,
    ]


def no_numbers(many):
    """What is none of the numbers from 0 to many - 1."""
    odd = [thing for thing in odd_things() if not (type(thing) is int and 0 <= thing < many)]
    return odd + [many, many + 1, "0", (0,), [0], {0}, b"0"]


def spoilt(thing):
    """Things that are like this one but for one part: another one in its place, dropped, twice, swapped."""
    yield from odd_things()
    if is_int(thing):
        yield from (thing - 1, thing + 1, str(thing), (thing,), bool(thing), -thing - 1)
    if type(thing) is str:
        yield from (thing + "a", thing.upper(), thing.encode(), (thing,), thing[:-1])
    if type(thing) is tuple:
        yield list(thing)
        yield (thing,)
        for odd in odd_things():
            yield thing + (odd,)
        for at, part in enumerate(thing):
            yield thing[:at] + thing[at + 1:]
            yield thing[:at] + (part,) + thing[at:]
            if at:
                yield thing[:at - 1] + (part, thing[at - 1]) + thing[at + 1:]
            for other in spoilt(part):
                yield thing[:at] + (other,) + thing[at + 1:]


def look(thing):
    """A text that tells a thing with all its parts, so that a change of it shows."""
    if isinstance(thing, (list, tuple)):
        return f"{type(thing).__name__}({','.join(look(part) for part in thing)})"
    if isinstance(thing, dict):
        return f"dict({','.join(look(part) for part in thing.items())})"
    if isinstance(thing, Prickly):
        return "prickly"
    return f"{type(thing).__name__}:{thing!r}"


def refused(test, error, value, call, *args, **named):
    """The call is refused by this very class, with that very value."""
    with test.assertRaises(error) as caught:
        call(*args, **named)
    test.assertIs(type(caught.exception), error)
    (held,) = vars(caught.exception).values()
    if held is not value:
        test.assertEqual((type(held), held), (type(value), value))


# Words

def rows_of(names, longest):
    """All rows of these names, to the longest."""
    for size in range(longest + 1):
        yield from itertools.product(names, repeat=size)


SMALL_WORDS = tuple(rows_of("ab", 4)) + tuple(rows_of("abc", 3)) + tuple(map(tuple, (
    "abcab", "abcba", "aabaa", "ababa", "abaab", "aabab", "abbab", "aaaaa")))


def great_words():
    """Words of twelve names, and some a little shorter."""
    told = ["aaaaaaaaaaaa", "abcdefghijkl", "abababababab", "aabbaabbaabb", "abcabcabcabc", "aaaaaabbbbbb",
            "abcdefabcdef", "abcdeffedcba", "aaaaaaaaaaab", "baaaaaaaaaaa", "abaababaabaa", "abacabadabac",
            "aabaabaabaab", "abcdefghijka", "aabcdefghijk", "abcdefghijkk", "ababababab", "abcabcabcab"]
    rng = random.Random(12)
    told += ["".join(rng.choice("abcd"[:names]) for _ in range(12)) for names in (2, 3, 4) for _ in range(8)]
    long_names = {"a": "a", "b": "bbbbbb", "c": "ab", "d": "abc"}
    return [tuple(word) for word in told] + [tuple(long_names[name] for name in word) for word in told[-6:]]


def plain_backs(word, place):
    if place == 0:
        return []
    return [other for other in range(len(word) + 1) if 1 <= other < place and word[other - 1] == word[place - 1]]


def plain_courses(word, row, place):
    """All courses, by trying all places."""
    if not row:
        return [()] if place == len(word) else []
    found = []
    for at in [place] + plain_backs(word, place):
        if at < len(word) and word[at] == row[0]:
            if len(row) == 1:
                found += [(at,)] if at + 1 == len(word) else []
            else:
                found += [(at,) + rest for rest in plain_courses(word, row[1:], at + 1)]
    return found


def least_course(word, row, place):
    """The least course, of rows of any length: from the row's end on the least rest behind each place."""
    if not row:
        return () if place == len(word) else None
    best = {}
    for number in reversed(range(len(row))):
        new = {}
        for at in range(len(word)):
            if word[at] != row[number]:
                continue
            if number == len(row) - 1:
                if at + 1 == len(word):
                    new[at] = (at,)
            else:
                rests = [best[to] for to in [at + 1] + plain_backs(word, at + 1) if to in best]
                if rests:
                    new[at] = (at,) + min(rests)
        best = new
    return min([best[at] for at in [place] + plain_backs(word, place) if at in best], default=None)


@functools.lru_cache(maxsize=None)
def places_behind(word, places, name):
    """All places that one may have come to behind one name more, without winding back then."""
    all_places = set(places)
    for place in places:
        all_places.update(plain_backs(word, place))
    return frozenset(at + 1 for at in all_places if at < len(word) and word[at] == name)


class Counted:
    """How many wound rows there are to a size, by the sets of all the places that one may be at."""

    def __init__(self, word, size):
        self.word = word
        self.names = sorted(set(word))
        self.begin = frozenset((0,))
        sets = [self.begin]
        for places in sets:
            sets += [further for further in self.onward(places) if further not in sets]
        self.counts = [{places: int(len(word) in places) for places in sets}]
        for _ in range(size):
            ahead = self.counts[-1]
            self.counts.append({places: sum(ahead[further] for further in self.onward(places)) for places in sets})

    def onward(self, places):
        return [places_behind(self.word, places, name) for name in self.names]

    def count(self, size):
        return self.counts[size][self.begin]

    def number(self, row):
        """How many wound rows of this size are less than this one."""
        less = 0
        places = self.begin
        for at, name in enumerate(row):
            for other in self.names:
                if other < name:
                    less += self.counts[len(row) - at - 1][places_behind(self.word, places, other)]
            places = places_behind(self.word, places, name)
        return less


def lacks(word, kind, row):
    """Whether the row doesn't begin with the word, end with it, have it as a stretch."""
    many = len(word)
    if kind == "firm":
        return row[:many] != word
    if kind == "late":
        return row[len(row) - many:] != word if len(row) >= many else True
    return not any(row[at:at + many] == word for at in range(len(row) - many + 1))


def plain_seen(word, kind, row):
    """Point 9, to the letter."""
    if kind == "firm":
        if row[:len(word)] == word:
            return len(word)
        return len(row) if word[:len(row)] == row else -1
    if kind == "steady" and not lacks(word, "steady", row):
        return len(word)
    return max(many for many in range(min(len(word), len(row)) + 1) if row[len(row) - many:] == word[:many])


def seen_then(word, kind, seen, name):
    """What is seen behind a row of which this was seen, and this name."""
    row = ("other",) if seen == -1 else word[:seen]
    assert plain_seen(word, kind, row) == seen
    return plain_seen(word, kind, row + (name,))


def plain_lacking(word, kind):
    """The least of the shortest wound rows that lack the word so, by going through all rows that differ
    in the places that one may be at or in what is seen, to more names than there are such."""
    rows = {(frozenset((0,)), 0): ()}
    known = dict(rows)
    while rows:
        bad = [row for (places, seen), row in rows.items() if len(word) in places and lacks(word, kind, row)]
        if bad:
            return min(bad)
        further = {}
        for (places, seen), row in rows.items():
            for name in sorted(set(word)):
                longer = row + (name,)
                key = (places_behind(word, places, name), plain_seen(word, kind, longer))
                if key[0] and key not in known:
                    further[key] = min(longer, further.get(key, longer))
        known.update(further)
        rows = further
    return None


# Webs

def is_int(thing):
    return type(thing) is int


def is_plain_name(thing):
    return type(thing) is str and len(thing) in range(1, 7) and set(thing) <= set("abcdefghijklmnopqrstuvwxyz")


def plain_rising(thing, n):
    """A rising tuple of unlike crossings."""
    return (type(thing) is tuple and all(is_int(part) for part in thing) and set(thing) <= set(range(n))
            and thing == tuple(sorted(set(thing))))


def plain_web(thing):
    """Point 10, to the letter."""
    if type(thing) is not tuple or len(thing) != 2:
        return False
    n, posts = thing
    if not is_int(n) or n not in range(41) or type(posts) is not tuple or len(posts) > 120:
        return False
    for post in posts:
        if type(post) is not tuple or len(post) != 3:
            return False
        if not is_int(post[0]) or post[0] not in range(n) or not is_plain_name(post[1]):
            return False
        if not plain_rising(post[2], n) or len(post[2]) not in range(1, 9):
            return False
    return len({post[:2] for post in posts}) == len(posts) and sorted(posts) == list(posts)


def make_web(n, posts):
    """A web of posts told as {(crossing, name): arms}."""
    return (n, tuple(sorted((crossing, name, tuple(sorted(arms))) for (crossing, name), arms in posts.items())))


def some_web(rng, n, names, most_posts, most_arms, near=None):
    """A web by chance, its arms, where near is told, not further off than that."""
    spots = [(crossing, name) for crossing in range(n) for name in names]
    posts = {}
    for crossing, name in rng.sample(spots, min(len(spots), most_posts)):
        pool = range(n) if near is None else [(crossing + step) % n for step in range(near)]
        posts[crossing, name] = rng.sample(pool, rng.randint(1, min(most_arms, len(pool))))
    return make_web(n, posts)


def small_webs(many):
    """Small webs with few worlds, those without posts or crossings among them."""
    rng = random.Random(3)
    webs = [(0, ()), (1, ()), (3, ()), (1, ((0, "a", (0,)),)), (2, ((0, "a", (0, 1)), (0, "b", (1,)), (1, "a", (0,))))]
    while len(webs) < many:
        web = some_web(rng, rng.randint(1, 3), "ab", rng.randint(1, 6), 3)
        if len(worlds_of(web)) <= 27:
            webs.append(web)
    return webs


def great_webs():
    """Webs of 40 crossings and 120 posts, some of which have eight arms, with words of twelve names and goals."""
    rng = random.Random(40)
    told = []
    for most_arms, near in ((1, None), (1, 3), (2, 3), (2, None), (3, 4), (8, 8), (8, None), (8, 9)):
        web = some_web(rng, 40, "abc", 120, most_arms, near)
        for goals in (None, (), tuple(range(30)), tuple(sorted(rng.sample(range(40), 34))), (0, 39)):
            told.append((web, tuple(rng.choice("abc") for _ in range(12)), goals))
    eights = make_web(40, {(c, name): {(c + step) % 40 for step in range(8)} for c in range(40) for name in "abc"})
    onward = make_web(40, {(c, name): {min(39, c + step) for step in range(1, 9)} for c in range(40) for name in "abc"})
    round_and_round = make_web(40, {(c, name): {(c + 1) % 40} for c in range(40) for name in "abc"})
    for word in ("abcabcabcabc", "aabbccaabbcc", "aaaaaaaaaaaa", "abccbaabccba"):
        for goals in (None, (), (39,), tuple(range(20, 40)), tuple(range(8, 40))):
            told += [(web, tuple(word), goals) for web in (eights, onward, round_and_round)]
    return told


def sparse_webs():
    """Webs of 40 crossings and 120 posts, of more NAMEs than stand everywhere, with words of one to twelve names."""
    rng = random.Random(41)
    told = []
    for (most_arms, near), names in itertools.product(((1, None), (2, 3), (3, 4), (8, 8)), ("abcd", "abcdef")):
        web = some_web(rng, 40, names, 120, most_arms, near)
        for size in (1, 2, 3, 4, 6, 12):
            word = tuple(rng.choice(names) for _ in range(size))
            told.append((web, word, rng.choice((None, tuple(range(20)), tuple(sorted(rng.sample(range(40), 36)))))))
    return told


def some_goals(web):
    return (None, (), (0,)[:web[0]], tuple(range(web[0]))[1:])


SHORT_WORDS = tuple(rows_of("ab", 3)) + tuple(map(tuple, ("abab", "aaaa", "abba", "ac")))


def small_cases(many):
    """So many small webs, each with short words and goals."""
    return itertools.chain.from_iterable(
        itertools.product([web], SHORT_WORDS, some_goals(web)) for web in small_webs(many))


def worlds_of(web):
    """All worlds of a web, rising."""
    return sorted(itertools.product(*(arms for _, _, arms in web[1])))


def some_world(rng, web):
    return tuple(rng.choice(arms) for _, _, arms in web[1])


def plain_arm(web, world, crossing, name):
    """The arm that is right, in a list, [] where no post stands."""
    return [arm for post, arm in zip(web[1], world) if post[0] == crossing and post[1] == name]


def plain_gone(web, world, start, row):
    told = (start,)
    for name in row:
        arm = plain_arm(web, world, told[-1], name)
        if not arm:
            return told
        told += tuple(arm)
    return told


def plain_goals(web, goals):
    return set(range(web[0])) if goals is None else set(goals)


def further_walks(web, world, word, crossing, place):
    """All steps from there, as (place, crossing)."""
    return [(at, arm) for at in [place] + plain_backs(word, place) if at < len(word)
            for arm in plain_arm(web, world, crossing, word[at])]


def plain_walks(web, world, word, crossing, place, goals, most):
    """All wound walks from there that end well, to so many steps, those of each size by themselves."""
    begun = [((), crossing, place)]
    for _ in range(most + 1):
        yield [walk for walk, here, at in begun if at == len(word) and here in plain_goals(web, goals)]
        begun = [(walk + (step,), step[1], step[0] + 1) for walk, here, at in begun
                 for step in further_walks(web, world, word, here, at)]


def plain_walk(web, world, word, crossing, place, goals):
    """The least of the shortest ones; a shortest one is never twice at one crossing and place."""
    for walks in plain_walks(web, world, word, crossing, place, goals, web[0] * len(word) + 1):
        if walks:
            return min(walks)
    return None


def least_walks(web, world, word, goals):
    """The least of the shortest walks from each (crossing, place), in webs of any size, by their ends."""
    pairs = [(crossing, place) for crossing in range(web[0]) for place in range(len(word) + 1)]
    onward = {pair: further_walks(web, world, word, *pair) for pair in pairs}
    best = {(crossing, len(word)): () for crossing in plain_goals(web, goals)}
    fresh = best
    while fresh:
        new = {}
        for pair in pairs:
            if pair not in best:
                walks = [((at, to),) + fresh[to, at + 1] for at, to in onward[pair] if (to, at + 1) in fresh]
                if walks:
                    new[pair] = min(walks)
        best = {**best, **new}
        fresh = new
    return best


def plain_rounds(web, word, goals):
    """Point 16, round by round, to the letter."""
    pairs = [(crossing, place) for crossing in range(web[0]) for place in range(len(word) + 1)]
    arms = {(crossing, name): arms for crossing, name, arms in web[1]}
    told = []
    earlier = set()
    fresh = {(crossing, len(word)) for crossing in plain_goals(web, goals)}
    while fresh:
        fresh |= {(c, j) for c, j in pairs
                  if any((c, i) in fresh or (c, i) in earlier for i in plain_backs(word, j))}
        fresh -= earlier
        told.append(tuple(sorted(fresh)))
        earlier |= fresh
        fresh = {(c, i) for c, i in pairs if i < len(word) and (c, word[i]) in arms and (c, i) not in earlier
                 and all((d, i + 1) in earlier for d in arms[c, word[i]])}
    return tuple(told)


def paper_faults(web, word, goals, paper):
    """The rows of a paper of marks that have no ground by the rows ahead of them, or come twice."""
    arms = {(crossing, name): arms for crossing, name, arms in web[1]}
    ahead = set()
    faults = []
    for row in paper:
        crossing, place, ground = row
        stands = False
        if ground == ("end",):
            stands = place == len(word) and crossing in plain_goals(web, goals)
        elif ground == ("post",):
            post = arms.get((crossing, word[place]), ()) if place < len(word) else ()
            stands = bool(post) and all((arm, place + 1) in ahead for arm in post)
        elif ground[0] == "back" and len(ground) == 2:
            stands = ground[1] in plain_backs(word, place) and (crossing, ground[1]) in ahead
        if not stands or (crossing, place) in ahead:
            faults.append(row)
        ahead.add((crossing, place))
    return faults


def plain_marks(web, word, goals):
    """The set of all marks."""
    return set(itertools.chain.from_iterable(plain_rounds(web, word, goals)))


def is_plain_paper(web, word, goals, thing):
    """Point 17, to the letter."""
    if type(thing) is not tuple:
        return False
    for row in thing:
        if type(row) is not tuple or len(row) != 3 or not is_int(row[0]) or not is_int(row[1]):
            return False
        if row[0] not in range(web[0]) or row[1] not in range(len(word) + 1):
            return False
        ground = row[2]
        if type(ground) is not tuple or not ground or type(ground[0]) is not str:
            return False
        if any(not is_int(part) for part in ground[1:]):
            return False
    return paper_faults(web, word, goals, thing) == []


def some_paper(rng, web, word, goals, size):
    """A paper of marks by chance, of at most so many rows: any row that has a ground by those ahead of it."""
    grounds = [("end",), ("post",)] + [("back", place) for place in range(len(word))]
    spots = [(crossing, place, ground) for crossing in range(web[0]) for place in range(len(word) + 1)
             for ground in grounds]
    rng.shuffle(spots)
    paper = ()
    while len(paper) < size:
        fitting = [row for row in spots if not paper_faults(web, word, goals, paper + (row,))]
        if not fitting:
            break
        paper += (fitting[0],)
    return paper


# Asks

def some_asks(web):
    """All asks of a small web."""
    crossings = range(web[0])
    tuples = [told for size in range(web[0] + 1) for told in itertools.combinations(crossings, size)]
    return ([("somewhere",)] + [("from", crossing) for crossing in crossings]
            + [(form, told) for form in ("into", "among") for told in tuples])


def plain_fails(web, world, word, ask):
    """Point 20, to the letter."""
    ways = {start: plain_gone(web, world, start, word) for start in range(web[0])}
    ends = {start: way[-1] for start, way in ways.items() if len(way) == len(word) + 1}
    if ask[0] == "somewhere":
        return not ends
    if ask[0] == "from":
        return ask[1] not in ends
    if ask[0] == "into":
        return not any(end in ask[1] for end in ends.values())
    return not any(start in ask[1] for start in ends)


def asked_ones(web, ask):
    """The asked crossings, and the goals."""
    crossings = {"from": ask[1:], "among": ask[-1]}.get(ask[0], tuple(range(web[0])))
    return crossings, ask[1] if ask[0] == "into" else None


# Askers

def plain_asker(thing):
    """Point 24, to the letter."""
    if type(thing) is not tuple or len(thing) != 4:
        return False
    many, ways, goods, rows = thing
    if not is_int(many) or many not in range(1, 17) or type(ways) is not tuple or len(ways) > 60:
        return False
    for way in ways:
        if type(way) is not tuple or len(way) != 3 or not is_int(way[0]) or not is_int(way[2]):
            return False
        if way[0] not in range(many) or not is_plain_name(way[1]) or way[2] not in range(1, many):
            return False
    if list(ways) != sorted(set(ways)) or not plain_rising(goods, many) or type(rows) is not tuple:
        return False
    if any(len({name for _, name, to in ways if to == stand}) != 1 for stand in range(1, many)):
        return False
    for row in rows:
        if type(row) is not tuple or len(row) != 2 or type(row[0]) is not str or type(row[1]) is not tuple:
            return False
        if any(not is_int(part) for part in row[1]) or len(set(row[1])) != len(row[1]):
            return False
        if set(row[1]) != {to for _, name, to in ways if name == row[0]}:
            return False
    return [row[0] for row in rows] == sorted({name for _, name, _ in ways})


def make_asker(many, ways, goods, orders):
    """An asker whose ways are told as (stand, name, to) in any order, its rows as {name: stands}."""
    return (many, tuple(sorted(set(ways))), tuple(sorted(goods)), tuple(sorted(orders.items())))


def some_asker(rng, many, names, most_ways):
    """An asker by chance, its rows in any order."""
    name_of = {stand: rng.choice(names) for stand in range(1, many)}
    ways = {(rng.randrange(many), name_of[stand], stand) for stand in name_of}
    spots = [(stand, name_of[to], to) for stand in range(many) for to in name_of]
    rng.shuffle(spots)
    ways |= set(spots[:max(0, most_ways - len(ways))])
    orders = {}
    for stand in rng.sample(sorted(name_of), len(name_of)):
        orders[name_of[stand]] = orders.get(name_of[stand], ()) + (stand,)
    goods = rng.sample(range(many), rng.choice((0, 1, 1, 1, 2, many // 2, many)) % (many + 1))
    return make_asker(many, ways, goods, orders)


def small_askers(many):
    """Askers of one to five stands, by words and by chance."""
    rng = random.Random(24)
    askers = [(1, (), (), ()), (1, (), (0,), ()), make_asker(2, [(0, "a", 1), (1, "a", 1)], [1], {"a": (1,)}),
              make_asker(3, [(0, "a", 1), (1, "a", 2)], [1], {"a": (2, 1)}),
              make_asker(3, [(0, "a", 1), (1, "b", 2)], [0, 2], {"a": (1,), "b": (2,)})]
    while len(askers) < many:
        stands = rng.randint(2, 5)
        askers.append(some_asker(rng, stands, "ab", rng.randint(stands - 1, 2 * stands)))
    return askers


def great_askers():
    """Askers of 16 stands and as many as 60 ways."""
    rng = random.Random(60)
    return [some_asker(rng, 16, names, ways) for names in ("a", "ab", "abc", "abcdef") for ways in (15, 20, 30, 60)]


def plain_lower(asker, stand):
    """The stands to which one may step back from this one."""
    for _, stands in asker[3]:
        if stand in stands:
            return list(stands[:stands.index(stand)])
    return []


def plain_reads(asker, row, stand, plainly):
    """By trying all that may be done."""
    here = [stand] + ([] if plainly else plain_lower(asker, stand))
    if not row:
        return any(at in asker[2] for at in here)
    return any(plain_reads(asker, row[1:], to, plainly) for at in here for s, name, to in asker[1]
               if s == at and name == row[0])


def stands_behind(asker, stands, name, plainly):
    """All stands that one may have come to behind one name more, without stepping back then."""
    here = set(stands)
    if not plainly:
        here.update(*(plain_lower(asker, stand) for stand in stands))
    return frozenset(to for s, called, to in asker[1] if s in here and called == name)


def reads_long(asker, row, stand, plainly):
    """The same for rows of any length, by the sets of all stands that one may be at."""
    stands = frozenset((stand,))
    for name in row:
        stands = stands_behind(asker, stands, name, plainly)
    return any(plain_reads(asker, (), at, plainly) for at in stands)


def has_plain_stretch(asker, row):
    return any(reads_long(asker, row[begin:end], 0, True)
               for begin in range(len(row) + 1) for end in range(begin, len(row) + 1))


def plain_unsettled(asker):
    """The least of the shortest rows that are read and have no stretch that is read plainly, by going through
    all rows that differ in the stands that one may be at, by stepping back and, begun anywhere, plainly."""
    names = sorted({name for _, name, _ in asker[1]})
    rows = {(frozenset((0,)), frozenset((0,))): ()}
    known = set()
    while rows:
        known |= set(rows)
        fitting = {key: row for key, row in rows.items() if not any(good in key[1] for good in asker[2])}
        bad = [row for (stands, _), row in fitting.items() if any(plain_reads(asker, (), at, False) for at in stands)]
        if bad:
            return min(bad)
        rows = {}
        for (stands, plain), row in fitting.items():
            for name in names:
                key = (stands_behind(asker, stands, name, False), stands_behind(asker, plain, name, True) | {0})
                if key not in known:
                    rows[key] = min(row + (name,), rows.get(key, row + (name,)))
    return None


def plain_asked_places(web, world, asker, goals):
    """From each (crossing, stand) a search through all that can be come to."""
    arm = {post[:2]: arm for post, arm in zip(web[1], world)}
    pairs = list(itertools.product(range(web[0]), range(asker[0])))
    onward = {(c, s): [(c, lower) for lower in plain_lower(asker, s)]
              + [(arm[c, name], to) for at, name, to in asker[1] if at == s and (c, name) in arm] for c, s in pairs}
    ends = {(c, s) for c, s in pairs if c in plain_goals(web, goals) and s in asker[2]}
    told = set()
    for pair in pairs:
        come_to = {pair: True}
        line = [pair]
        for here in line:
            new = [further for further in onward[here] if further not in come_to]
            come_to.update(dict.fromkeys(new, True))
            line += new
        if ends.intersection(line):
            told.add(pair)
    return told


def plain_asked_marks(web, asker, goals):
    """The least set, grown until nothing more comes, to the letter of point 26."""
    pairs = list(itertools.product(range(web[0]), range(asker[0])))
    arms = {post[:2]: post[2] for post in web[1]}
    told = {(c, s) for c, s in pairs if s in asker[2] and c in plain_goals(web, goals)}
    while True:
        fresh = {(c, s) for s, name, to in asker[1] for c in range(web[0])
                 if (c, name) in arms and all((d, to) in told for d in arms[c, name])}
        fresh |= {(c, t) for c, t in pairs if any((c, s) in told for s in plain_lower(asker, t))}
        if fresh <= told:
            return told
        told |= fresh


# Yards

def plain_word(thing):
    return type(thing) is tuple and len(thing) <= 12 and all(is_plain_name(part) for part in thing)


class PlainYard:
    """A yard as points 31 and 32 tell it, its marks found anew each time, with what is due at each deed."""

    def __init__(self, n, word=(), goals=None):
        self.n, self.posts, self.word, self.goals, self.was = n, {}, word, goals, []

    @classmethod
    def beside(cls, yard):
        """One that stands as this yard does; what it can take back is told by copies of that one."""
        other = yard.copied()
        states = [(other.web(), other.its_word(), other.its_goals())]
        while len(other):
            other.back()
            states.append((other.web(), other.its_word(), other.its_goals()))
        plain = cls(states[0][0][0])
        told = [({post[:2]: post[2] for post in web[1]}, word, goals) for web, word, goals in states]
        plain.posts, plain.word, plain.goals = told[0]
        plain.was = told[:0:-1]
        return plain

    def copied(self):
        other = PlainYard(self.n, self.word, self.goals)
        other.posts, other.was = dict(self.posts), list(self.was)
        return other

    def web(self):
        return make_web(self.n, self.posts)

    def marked(self):
        return plain_marks(self.web(), self.word, self.goals)

    def crosses(self, thing):
        return is_int(thing) and 0 <= thing < self.n

    def due(self, deed, args, goals=None):
        """The class and the values of the refusal that is due, None."""
        from woundwalks import errors
        if deed == "back":
            return None if self.was else (errors.NoBack, {})
        if deed == "turn_to":
            if not plain_word(args[0]):
                return errors.NoWord, {"word": args[0]}
            if goals is not None and not plain_rising(goals, self.n):
                return errors.NoGoals, {"goals": goals}
            return None
        if not self.crosses(args[0]):
            return errors.NoCrossing, {"crossing": args[0]}
        if not is_plain_name(args[1]):
            return errors.NoName, {"name": args[1]}
        arms = self.posts.get(args[:2])
        if deed == "put":
            if arms is not None:
                return errors.PostThere, {}
            if not plain_rising(args[2], self.n) or not 1 <= len(args[2]) <= 8:
                return errors.NoArms, {"arms": args[2]}
            return (errors.Full, {}) if len(self.posts) == 120 else None
        if arms is None:
            return errors.NoPost, {}
        if deed == "widen":
            if not self.crosses(args[2]) or args[2] in arms:
                return errors.NoArm, {"arm": args[2]}
            return (errors.Full, {}) if len(arms) == 8 else None
        if deed in ("strike", "settle"):
            if not self.crosses(args[2]) or args[2] not in arms:
                return errors.NoArm, {"arm": args[2]}
            if deed == "strike" and len(arms) == 1:
                return errors.LastArm, {}
        return None

    def do(self, deed, args, goals=None):
        """(won, lost), the deed done."""
        ahead = self.marked()
        if deed == "back":
            self.posts, self.word, self.goals = self.was.pop()
        else:
            self.was.append((self.posts, self.word, self.goals))
            self.posts = dict(self.posts)
            if deed == "turn_to":
                self.word, self.goals = args[0], goals
            elif deed == "take":
                del self.posts[args]
            else:
                arms = set(self.posts.get(args[:2], ()))
                arms = {"put": set(args[2]) if deed == "put" else None, "widen": arms | {args[2]},
                        "strike": arms - {args[2]}, "settle": {args[2]}}[deed]
                self.posts[args[:2]] = tuple(sorted(arms))
        behind = self.marked()
        return tuple(sorted(behind - ahead)), tuple(sorted(ahead - behind))


DEEDS = ("put", "put", "put", "take", "widen", "widen", "strike", "settle", "turn_to", "back")


def some_deed(rng, plain, names, deed=None):
    """A deed by chance, at a post that stands as often as not; some are refused."""
    deed = deed or rng.choice(DEEDS)
    if deed == "back":
        return deed, (), {}
    if deed == "turn_to":
        word = tuple(rng.choice(names) for _ in range(rng.randint(0, 5)))
        goals = tuple(sorted(rng.sample(range(plain.n), rng.randint(0, plain.n))))
        return deed, (word,), rng.choice(({}, {"goals": None}, {"goals": goals}, {"goals": goals}))
    spot = rng.randrange(plain.n), rng.choice(names)
    if deed != "put" and plain.posts and rng.random() < 0.8:
        spot = rng.choice(sorted(plain.posts))
    if deed == "take":
        return deed, spot, {}
    if deed == "put":
        arms = rng.sample(range(plain.n), rng.randint(1, min(8, plain.n)))
        return deed, (*spot, tuple(arms if rng.random() < 0.1 else sorted(arms))), {}
    arms = plain.posts.get(spot, ())
    fitting = [arm for arm in range(plain.n) if (arm in arms) != (deed == "widen")]
    arm = rng.choice(fitting) if fitting and rng.random() < 0.9 else rng.randrange(plain.n + 1)
    return deed, (*spot, arm), {}


def some_value(rng, plain, kind):
    """A value of this kind by chance, good, nearly good, or of any kind at all."""
    if rng.random() < 0.2:
        return rng.choice(odd_things())
    if kind in ("crossing", "arm"):
        return rng.randrange(-1, plain.n + 1) if rng.random() < 0.2 else rng.randrange(max(1, plain.n))
    if kind == "name":
        return rng.choice(("a", "a", "a", "b", "b", "zzzzzz", "zzzzzzz", "A", ""))
    if kind == "word":
        return tuple(rng.choice("ab") for _ in range(rng.choice((0, 1, 2, 12, 12, 13))))
    size = rng.randint(0, 10)
    told = [rng.randrange(-1 if rng.random() < 0.1 else 0, plain.n + 1) for _ in range(size)]
    if rng.random() < 0.8:
        told = sorted(set(told) & set(range(plain.n)))
    return tuple(told) if rng.random() < 0.9 else told


# Tables

def plain_key(thing):
    return (type(thing) is str and len(thing) in range(1, 13)
            and set(thing) <= set("abcdefghijklmnopqrstuvwxyz0123456789"))


def plain_table(thing):
    """Point 34, to the letter."""
    return type(thing) is tuple and len(thing) <= 200 and all(
        type(row) is tuple and len(row) == 3 and plain_key(row[0]) and is_plain_name(row[1]) and plain_key(row[2])
        for row in thing)


def plain_table_web(table):
    keys = sorted({key for row in table for key in (row[0], row[2])})
    posts = {}
    for key, name, last in table:
        posts.setdefault((keys.index(key), name), set()).add(keys.index(last))
    return make_web(len(keys), posts)


def some_table(rng, keys, names, rows):
    return tuple((rng.choice(keys), rng.choice(names), rng.choice(keys)) for _ in range(rows))


def small_tables(many):
    """Small tables with few keepings, the empty one among them."""
    rng = random.Random(34)
    tables = [(), (("a", "a", "a"),), (("b", "a", "a"), ("b", "a", "a")), (("b", "a", "a"), ("b", "a", "b"))]
    while len(tables) < many:
        table = some_table(rng, rng.choice((("x", "y"), ("1", "x", "x1"), ("a", "10", "9", "b"))), "ab", rng.randint(1, 9))
        if len(worlds_of(plain_table_web(table))) <= 64:
            tables.append(table)
    return tables


def great_tables():
    """Tables of 200 rows: with 40 KEYs, 120 posts, eight arms, some rows twice."""
    rng = random.Random(35)
    keys = [f"{'kqz'[number % 3]}{number}" for number in range(39)] + ["abcdefghij01"]
    told = []
    for arms, names in ((8, "abc"), (2, "abc"), (3, "abcdef")):
        spots = rng.sample(list(itertools.product(keys, names)), 120)
        rows = [(key, name, rng.choice(keys)) for key, name in spots]
        for key, name in spots * 2:
            more = [row for row in rows if row[:2] == (key, name)]
            if len({last for _, _, last in more}) < arms and len(rows) < 196:
                rows += [(key, name, last) for last in rng.sample(keys, arms)
                         if last not in [row[2] for row in more]][:arms - len(more)]
        rows = rows[:196]
        rows += rows[:200 - len(rows)]
        rng.shuffle(rows)
        told.append(tuple(rows))
    onward = [(keys[at], name, keys[min(39, at + step)]) for at in range(40) for name in "abc" for step in (1, 2)]
    told.append(tuple(onward[:200]))
    told.append(tuple((keys[at], "a", keys[(at + step) % 40]) for at in range(25) for step in range(8)))
    return told


def plain_keepings(table):
    """All keepings, rising: of each (KEY, NAME) one of its rows."""
    lasts = {}
    for row in table:
        lasts.setdefault(row[:2], set()).add(row)
    return sorted(tuple(sorted(rows)) for rows in itertools.product(*lasts.values()))
