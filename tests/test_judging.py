"""Points 192, 194 and 195: which papers are good."""

import random

import ways
from helpers import Case, changed
from sealgrove.accusing import accuse_batch, accuse_onetime, accuse_stateless, accuse_tower, accuse_tree
from sealgrove.judging import judge_batch, judge_onetime, judge_stateless, judge_tower, judge_tree

ACCUSE = {"onetime": accuse_onetime, "tree": accuse_tree, "tower": accuse_tower, "stateless": accuse_stateless,
          "batch": accuse_batch}
JUDGE = {"onetime": judge_onetime, "tree": judge_tree, "tower": judge_tower, "batch": judge_batch}
ALL = ways.SIGNING + (ways.BatchWay,)


class Odd:
    """A value that is equal to nothing."""

    __hash__ = None

    def __eq__(self, other):
        return False


NO_PAPERS = (None, True, 0, 1.5, "", "clash", b"opened", [], {}, (), ("opened",), ("clash",), ("twice",), ("covered",),
             ("clash", (), ()), ("clash", (1,)), ("opened", None), ("opened", []), ("opened", [1]), ("opened", "ab"),
             ("opened", (256,)), ("opened", (True,)), ("opened", ((1,),)), ("opened", (), ()), ("twice", None),
             ("twice", ()), ("twice", []), ("twice", (1, 2, 3)), ("twice", ([1], 2)), ("twice", ({},)), ("twice", 7),
             ("covered", ()), ("covered", None), ("covered", (0,)), ("covered", [0, 0]), ("covered", (0, None)),
             ("covered", ("a", "b")), ("covered", (10 ** 5000, 0)), ("covered", (-1, -1)), ("", ()), ([], ()), ({}, ()),
             (None, None), ("known", (1,)), 10 ** 5000, object(), Odd(), (Odd(), Odd()), ("twice", Odd()),
             ("opened", (Odd(),)), ("covered", (Odd(), Odd())), ("clash", (Odd(),), (Odd(),)))


def judge(way, book, pair, paper):
    if way.word == "stateless":
        return judge_stateless(*way.key, book, *pair, paper)
    return JUDGE[way.word](*way.key, book, paper)


def near(source, way, book, pair, paper):
    """Papers near this one."""
    out = [list(paper), paper[:-1], paper + (1,), ("clash",) + paper[1:], ("opened",) + paper[1:],
           ("twice",) + paper[1:], ("covered",) + paper[1:], (paper[0].upper(),) + paper[1:]]
    if paper[0] == "clash":
        one, other = paper[1], paper[2]
        out += [("clash", other, one), ("clash", one, one), ("clash", list(one), other), ("opened", other)]
        out += [("clash", one, tuple(changed(list(other), source.randrange(len(other))))) for _ in range(4) if other]
    if paper[0] == "opened":
        data = list(paper[1])
        out += [("opened", data), ("opened", paper[1] + (0,)), ("opened", paper[1][:-1])]
        out += [("opened", tuple(changed(data, source.randrange(len(data))))) for _ in range(6)]
    if paper[0] == "twice":
        place = paper[1]
        out += [("twice", list(place)), ("twice", place + (0,)), ("twice", place[:-1]), ("twice", place[::-1]),
                ("twice", tuple(list(item) if isinstance(item, tuple) else float(item) for item in place)),
                ("twice", tuple(item == 1 if item in (0, 1) else item for item in place))]
        out += [("twice", place[:-1] + (k,)) for k in range(4)]
    if paper[0] == "covered":
        numbers = paper[1]
        out += [("covered", numbers[:-1]), ("covered", numbers + (0,)), ("covered", list(numbers)),
                ("covered", tuple(float(number) for number in numbers)), ("covered", tuple(n == 1 for n in numbers))]
        out += [("covered", numbers[:k] + (number,) + numbers[k + 1:])
                for k in range(len(numbers)) for number in range(-1, len(book) + 1)]
    # A known list, the rows of the signature, the digests of known lists, and the places that were used.
    rows = [row for _, found in way.accepted(book) for row in found]
    for data, items, _ in source.sample(rows, min(len(rows), 2)) + source.sample(way.rows(*pair), 2):
        out += [("opened", data)] + [("opened", item) for item in items[:1]]
    for place, _ in way.uses(*pair) + [use for index, _ in way.accepted(book)[:2] for use in way.uses(*book[index])]:
        out.append(("twice", place))
    out += [("opened", tuple(ways.drawn(source, 3))) for _ in range(5)]
    return out


class Papers(Case):
    def check(self, source, way, book, pair, known=()):
        """The paper of the pair is good, and papers near it are judged rightly, if its word is not yet known."""
        paper = ACCUSE[way.word](*way.key, book, *pair)
        if way.word == "stateless":
            self.assertIs(self.pure(judge_stateless, *way.key, book, *pair, paper), True)
        else:
            self.assertIs(self.pure(JUDGE[way.word], *way.key, book, paper), True)
        told = {}
        if known.count(paper[0]) >= 3:
            return paper[0], told
        for other in near(source, way, book, pair, paper):
            wanted = way.is_good(book, *pair, other)
            self.assertIs(judge(way, book, pair, other), wanted, other)
            told[other[0], wanted] = True
        return paper[0], told

    def test_what_the_accuser_told_and_what_is_near_it(self):
        longer = {"name": "small-2"}
        for way_of, games in (
                (ways.OneTimeWay, ((15, 400, {}), (10, 2, longer))), (ways.TreeWay, ((10, 400, {}), (10, 2, longer))),
                (ways.TowerWay, ((5, 200, {}), (10, 2, longer))), (ways.BatchWay, ((15, 300, {}), (10, 2, longer))),
                (ways.StatelessWay, ((12, 150, {"words": ("small-1", 1, 1, 1, 1, 1)}),
                                     (30, 2, {"words": ("small-2", 1, 1, 2, 1, 2)})))):
            words, told = [], {}
            for rounds, tries, named in games:
                for seed in range(rounds):
                    source = random.Random(seed + rounds)
                    way = way_of(source, **named)
                    book = ways.a_book(way, source)
                    for pair in ways.strangers(way, source, book, 3, tries):
                        word, more = self.check(source, way, book, pair, words)
                        words.append(word)
                        told.update(more)
            self.assertLessEqual({"clash", "opened"} | ({"twice"} if way_of.has_places else set()), set(words))
            wanted = {(word, good) for word in ("clash", "opened", "twice") for good in (True, False)}
            if not way_of.has_places:
                wanted.discard(("twice", True))
            self.assertLessEqual(wanted, set(told), way_of.word)

    def test_covered_leaves(self):
        done, words = 0, ["opened", "clash", "twice"] * 3
        for seed in range(8):
            source = random.Random(seed)
            way = ways.StatelessWay(source, ("small-2", 1, 1, 2, 1, 1))
            book = [ways.made_pair(way, source, 0) for _ in range(5)]
            book.insert(2, ([1], [2]))
            for _ in range(3):
                pair = ways.made_pair(way, source, 0)
                word, told = self.check(source, way, book, pair, words)
                words.append(word)
                if word == "covered":
                    done += 1
                    self.assertTrue(done > 3 or {("covered", True), ("covered", False)} <= set(told))
                    paper = accuse_stateless(*way.key, book, *pair)
                    # It is good for this signature alone, and only as long as it is accepted.
                    for other in ((pair[0], pair[1][:-1]), (pair[0] + [1], pair[1]), ([], []), *book):
                        self.assertIs(judge(way, book, other, paper), way.is_good(book, *other, paper))
                    self.assertIs(judge(way, book, (pair[0], pair[1][:-1]), paper), False)
                    self.assertIs(judge(way, [], pair, paper), False)
                    self.assertIs(judge(way, [([1], [2])] * 9, pair, paper), False)
        self.assertGreater(done, 3)

    def test_values_of_every_kind(self):
        source = random.Random(3)
        for way_of in ALL:
            way = way_of(source)
            book = [ways.made_pair(way, source, 0)]
            stranger = ways.made_pair(way, source, 1 % way.places)
            for paper in NO_PAPERS:
                self.assertIs(judge(way, book, stranger, paper), False)
                self.assertIs(judge(way, [], stranger, paper), False)

    def test_a_place_whose_numbers_are_of_another_kind(self):
        """True is no integer, although Python takes it for 1."""
        way = ways.TreeWay(random.Random(4), "sha-4", 1, 1)
        own = tuple(way.identifier)
        book = [([1], way.sign(1, [1])), ([2], way.sign(1, [2]))]
        self.assertIs(judge_tree(way.public, book, ("twice", (own, 1))), True)
        for place in ((own, True), (own, 1.0), (own, 0), (list(own), 1), (own,), (1, own), (own, (1,)), own, [own, 1],
                      (bytes(own), 1), (own[:-1], 1), (own, 1, 1)):
            self.assertIs(judge_tree(way.public, book, ("twice", place)), False)
        self.assertIs(judge_tree(way.public, book[:1], ("twice", (own, 1))), False)
        # A pair that stands twice in the book uses no place for two things.
        self.assertIs(judge_tree(way.public, [book[0], book[0]], ("twice", (own, 1))), False)

    def test_places_of_a_tower(self):
        way = ways.TowerWay(random.Random(5), "sha-4")
        own = tuple(way.identifier)
        book = [([1], way.sign(1, [1])), ([2], way.rogue(1, [2]))]
        below = own[:7] + (1,) + (0,) * 8
        for place, good in (((own, 0), True), ((own,), False), ((own, 1), False), ((below,), True), ((below, 1), True),
                            ((below, 0), False), ((0, 0), False)):
            self.assertIs(judge_tower(way.public, book, ("twice", place)), good)
        twisted = [([8], way.rogue(3, [8], seed=tuple(way.seed), identifier=way.identifier))]
        for place, good in (((own,), True), ((own, 1), True), ((own, 0), False)):
            self.assertIs(judge_tower(way.public, twisted, ("twice", place)), good)


class Keys(Case):
    def test_public_keys_that_are_no_form(self):
        source = random.Random(6)
        for way_of in ways.SIGNING:
            way = way_of(source)
            book = [ways.made_pair(way, source, 0), ([2], way.rogue(0, [2]))]
            pair = ways.made_pair(way, source, 0)
            lists = [(a, b) for a in range(60) for b in range(60)]
            same = [data for data in lists if way.digest(data) == way.digest(lists[0])]
            papers = [("clash", same[0], same[1]), ("opened", pair and way.rows(*pair)[0][0])]
            papers += [("twice", place) for place, _ in way.uses(*book[0])]
            self.assertIs(judge(way, book, pair, papers[0]), True)
            public = way.key[-1]
            wrong = [[], [0], public[:-1], public + [0], [0] * 3]
            if way.word != "stateless":
                wrong += [changed(public, 0), [255] * len(public)]
            for other in wrong:
                way.key = way.key[:-1] + (other,)
                for paper in papers:
                    self.assertIs(judge(way, book, pair, paper), False)
            way.key = way.key[:-1] + (public,)

    def test_heads_that_are_none(self):
        way = ways.BatchWay(random.Random(7))
        lists = [(a, b) for a in range(60) for b in range(60)]
        same = [data for data in lists if way.digest(data) == way.digest(lists[0])]
        clash = ("clash", same[0], same[1])
        opened = ("opened", way.rows(*way.pair(2))[0][0])
        for paper in (clash, opened):
            self.assertIs(judge_batch(*way.key, [], paper), True)
            for head in ([], [3], way.head[:-1], way.head + [0], changed(way.head, 0), [3, 0, 0, 0, 0, way.head[5]],
                         [3, 0, 1, 0, 1, way.head[5]]):
                self.assertIs(judge_batch(way.suite, head, [], paper), False)
        # Another number of messages is the head of another batch, of which the root is known.
        for count in ([0, 1, 0, 0], [0, 0, 0, 1]):
            self.assertIs(judge_batch(way.suite, [3] + count + way.root, [], clash), True)
        for count in ([0, 1, 0, 1], [1, 0, 0, 1], [0, 0, 0, 0], [255] * 4):
            self.assertIs(judge_batch(way.suite, [3] + count + way.root, [], clash), False)

    def test_the_root_is_known_without_a_book(self):
        source = random.Random(8)
        for way_of in ALL:
            way = way_of(source, ("sha-4", 1, 1, 1, 1, 1)) if way_of is ways.StatelessWay else way_of(source, "sha-4")
            pair = ways.made_pair(way, source, 0)
            rows = way.rows(*pair)
            self.assertIs(judge(way, [], pair, ("opened", rows[0][0])), True)
            self.assertIs(judge(way, [pair], pair, ("opened", rows[0][0])), False)
            for data, _, _ in rows[1:]:
                self.assertIs(judge(way, [], pair, ("opened", data)), False)
                self.assertIs(judge(way, [pair], pair, ("opened", data)), False)
            # Somebody who finds a list for a digest that was only shown has a good paper.
            item = rows[0][1][0] if rows[0][1] else None
            lists = [data for data, _, _ in rows if way.digest(data) == item]
            if lists:
                self.assertIs(judge(way, [], pair, ("opened", lists[0])), False)

    def test_a_step_that_only_the_signer_knows(self):
        """The list below the value that is shown is opened: its digest is a known item."""
        for seed in range(5):
            way = ways.TreeWay(random.Random(seed), "small-4", 1, 1)
            book = [([1], way.sign(0, [1]))]
            lists, digests = way.known(book)
            rows = [row for k in range(4) for row in way.rows([k], way.sign(0, [k]))]
            for data, _, _ in rows:
                good = data not in lists and way.digest(data) in digests
                self.assertIs(judge_tree(way.public, book, ("opened", data)), good)
