"""Points 192 to 195: the accuser."""

import random

import ways
from helpers import Case, changed, shorter_and_longer
from sealgrove.accusing import accuse_batch, accuse_onetime, accuse_stateless, accuse_tower, accuse_tree
from sealgrove.batch import batch_head
from sealgrove.errors import Refused
from sealgrove.keeper import TowerKeeper, TreeKeeper
from sealgrove.disk import Disk
from sealgrove.papers import judge_clash

ACCUSE = {"onetime": accuse_onetime, "tree": accuse_tree, "tower": accuse_tower, "stateless": accuse_stateless,
          "batch": accuse_batch}
ALL = ways.SIGNING + (ways.BatchWay,)


class Rules(Case):
    def check(self, way, book, message, signature):
        """The paper is the one that the rules tell; return its rule."""
        paper = self.pure(ACCUSE[way.word], *way.key, book, message, signature)
        self.assertIs(type(paper), tuple)
        wanted = way.paper(book, message, signature)
        self.assertTrue(way.is_good(book, message, signature, paper))
        if wanted is None:
            lists = way.known(book)[0]
            self.assertEqual(paper[0], "clash")
            self.assertTrue(paper[1] in lists and paper[2] in lists)
            return "known clash"
        self.assertEqual(paper, wanted)
        return paper[0]

    def played(self, way_of, rounds, tries, **named):
        rules = {}
        for seed in range(rounds):
            source = random.Random(1000 * rounds + seed)
            way = way_of(source, **named)
            book = ways.a_book(way, source)
            for pair in ways.strangers(way, source, book, 3, tries):
                rule = self.check(way, book, *pair)
                rules[rule] = rules.get(rule, 0) + 1
        return rules

    def test_each_rule_for_each_way(self):
        # With longer digests there are fewer clashes, so that the other rules come into play.
        longer = {"name": "small-2"}
        for way_of, games in (
                (ways.OneTimeWay, ((50, 500, {}), (30, 2, longer))), (ways.TreeWay, ((40, 400, {}), (30, 2, longer))),
                (ways.TowerWay, ((30, 250, {}), (30, 2, longer))), (ways.BatchWay, ((50, 300, {}), (30, 2, longer))),
                (ways.StatelessWay, ((15, 250, {}), (40, 250, {"words": ("small-1", 1, 1, 1, 1, 1)}),
                                     (30, 2, {"words": ("small-2", 1, 1, 2, 1, 2)})))):
            rules = {}
            for rounds, tries, named in games:
                for rule, count in self.played(way_of, rounds, tries, **named).items():
                    rules[rule] = rules.get(rule, 0) + count
            wanted = {"known clash", "clash", "opened"} | ({"twice"} if way_of.has_places else set())
            self.assertLessEqual(wanted, set(rules), (way_of.word, rules))
            self.assertLessEqual(set(rules), wanted | {"covered"})

    def test_covered_leaves(self):
        rules = {}
        for seed in range(12):
            source = random.Random(seed)
            way = ways.StatelessWay(source, ("small-2", 1, 1, 2, 1, 1))
            book = [ways.made_pair(way, source, 0) for _ in range(5)]
            for _ in range(4):
                message, signature = ways.made_pair(way, source, 0)
                rule = self.check(way, book, message, signature)
                rules[rule] = rules.get(rule, 0) + 1
                if rule == "covered":
                    # The lowest index that shows the leaf, also behind pairs that are not accepted.
                    _, numbers = accuse_stateless(*way.key, book, message, signature)
                    wrong = [([1], [2]), (book[0][0], book[0][1][:-1])]
                    later = accuse_stateless(*way.key, wrong + book, message, signature)
                    self.assertEqual(later, ("covered", tuple(number + 2 for number in numbers)))
                    self.assertEqual(self.check(way, wrong + book + book, message, signature), "covered")
        self.assertGreater(rules["covered"], 10)
        self.assertGreater(rules["opened"], 3)

    def test_longer_digests(self):
        """With suites in which no clash is found, what was not made tells an opened list."""
        source = random.Random(7)
        made = [(ways.OneTimeWay(source, "sha-4", 4), 1), (ways.TreeWay(source, "sha-3", 4, 1), 2),
                (ways.TowerWay(source, "sha-8", (1, 1), 4), 3), (ways.BatchWay(source, "sha-32", 3), 2),
                (ways.StatelessWay(source, ("sha-3", 4, 2, 2, 1, 2)), 2)]
        for way, count in made:
            book = [ways.made_pair(way, source, place) for place in range(count - 1)]
            for pair in (ways.made_pair(way, source, count - 1), ways.made_pair(way, source, 0)):
                if pair not in book:
                    self.assertEqual(self.check(way, book, *pair), "opened")

    def test_the_root_is_opened_with_an_empty_book(self):
        source = random.Random(8)
        for way_of in ALL:
            way = way_of(source)
            pair = ways.made_pair(way, source, 0)
            word, data = ACCUSE[way.word](*way.key, [], *pair)
            self.assertEqual((word, data), ("opened", way.rows(*pair)[0][0]))
            self.assertEqual(way.digest(data), tuple(way.root))


class Order(Case):
    """Cases in which several rules apply."""

    def book_with_clash(self, way, source):
        """A book with a known clash, and one place that it uses twice."""
        for _ in range(400):
            message, signature = ways.made_pair(way, source, 0)
            for k in range(300):
                other = [k % 256, k // 256, 5, 5]
                book = [(message, signature), (other, signature)]
                if way.rows(*book[1]) is not None and way.has_clash(book) and way.used_twice(book):
                    return book
        raise AssertionError("no such book was found")

    def test_clashes_come_before_places(self):
        source = random.Random(31)
        for way_of in (ways.OneTimeWay, ways.TreeWay, ways.TowerWay):
            way = way_of(source)
            book = self.book_with_clash(way, source)
            for pair in ways.strangers(way, source, book, 2, 500):
                paper = ACCUSE[way.word](*way.key, book, *pair)
                self.assertEqual(paper[0], "clash")
                self.assertTrue(judge_clash(way.suite, paper))

    def test_places_come_before_opened_lists(self):
        source = random.Random(32)
        for name in ("small-16", "sha-4"):
            for way in (ways.OneTimeWay(source, name), ways.TreeWay(source, name), ways.TowerWay(source, name)):
                book = [([1], way.sign(0, [1])), ([2], way.rogue(0, [2]))]
                stranger = ([3], way.rogue(0, [3]))
                if way.has_clash(book):
                    continue
                paper = ACCUSE[way.word](*way.key, book, *stranger)
                self.assertEqual(paper, ("twice", way.used_twice(book)[0]))
                self.assertEqual(ACCUSE[way.word](*way.key, book[1:], *stranger)[0], "opened")

    def test_the_first_place_that_was_used_for_another_thing(self):
        """The pairs are gone through in order, and the places of each from the root down."""
        source = random.Random(33)
        way = ways.TreeWay(source, "sha-4", 1, 2)
        own = tuple(way.identifier)
        pairs = {(place, k): ([place, k], way.sign(place, [place, k])) for place in range(3) for k in (0, 1)}
        for order, told in (([(0, 0), (1, 0), (1, 1), (0, 1)], 1), ([(0, 0), (1, 0), (0, 1), (1, 1)], 0),
                            ([(2, 0), (2, 0), (1, 0), (0, 0), (0, 1), (2, 1)], 0)):
            book = [pairs[one] for one in order]
            self.assertEqual(accuse_tree(way.public, book, [9], way.sign(3, [9])), ("twice", (own, told)))
        way = ways.TowerWay(source, "sha-4")
        book = [([1], way.sign(1, [1])), ([2], way.rogue(1, [2]))]
        # The highest tree itself is used rightly; its place signs two public keys.
        paper = accuse_tower(way.public, book, [3], way.sign(2, [3]))
        self.assertEqual(paper, ("twice", (tuple(way.identifier), 0)))
        self.assertEqual(accuse_tower(way.public, book[:1], [2], book[1][1])[0], "opened")

    def test_two_levels_of_one_signature(self):
        source = random.Random(34)
        way = ways.TowerWay(source, "sha-4")
        twisted = ([8], way.rogue(3, [8], seed=tuple(way.seed), identifier=way.identifier))
        own = tuple(way.identifier)
        self.assertEqual(accuse_tower(way.public, [twisted], [3], way.sign(0, [3])), ("twice", (own,)))
        # The accused signature itself does not count for this rule.
        self.assertEqual(accuse_tower(way.public, [], *twisted)[0], "opened")

    def test_loose_rows(self):
        """A message whose list has the digest of the signed one is a clash of the two message lists."""
        source = random.Random(35)
        for way_of in (ways.OneTimeWay, ways.TreeWay, ways.TowerWay):
            found = 0
            while found < 3:
                way = way_of(source)
                message, signature = ways.made_pair(way, source, 0)
                book = [(message, signature)]
                if way.has_clash(book):
                    continue
                for k in range(600):
                    other = [k % 256, k // 256, 6, 6]
                    if way.rows(other, signature) is None:
                        continue
                    lists = [way.rows(text, signature)[-1][0] for text in (message, other)]
                    if way.digest(lists[0]) == way.digest(lists[1]):
                        paper = ACCUSE[way.word](*way.key, book, other, signature)
                        self.assertEqual(paper, ("clash", lists[0], lists[1]))
                        found += 1
                        break


class Refusals(Case):
    def test_pairs_of_the_book(self):
        source = random.Random(41)
        for way_of in ALL:
            way = way_of(source)
            for pair in (ways.made_pair(way, source, 0), ways.made_pair(way, source, 0)):
                for book in ([pair], [([1], [2]), pair], [pair, pair]):
                    if way.word == "batch":
                        book = [one for one in book if one != ([1], [2])]
                    self.raises(Refused, ACCUSE[way.word], *way.key, book, *pair)

    def test_signatures_that_are_not_accepted(self):
        source = random.Random(42)
        for way_of in ways.SIGNING:
            way = way_of(source)
            message, signature = ways.made_pair(way, source, 0)
            book = [(message, signature)]
            wrong = [(message, []), ([], []), (message, signature + [0]), (message, signature[:-1]), ([1] * 65537, [])]
            wrong += [(message, other) for other in shorter_and_longer(signature) if way.rows(message, other) is None]
            wrong += [(message, changed(signature, at)) for at in range(0, len(signature), 3)]
            wrong += [(message + [k], signature) for k in range(9)]
            if way.word != "stateless":
                # Such a list is no message, whatever was signed.
                wrong += [([7] * 65537, signature)]
            refused = 0
            for pair in wrong:
                if pair not in book and (len(pair[0]) > 65536 or way.rows(*pair) is None):
                    self.raises(Refused, ACCUSE[way.word], *way.key, book, *pair)
                    # Pairs of the book that are not accepted are refused, too.
                    self.raises(Refused, ACCUSE[way.word], *way.key, book + [pair], *pair)
                    refused += 1
            self.assertGreater(refused, 10)

    def test_public_keys_that_are_no_form(self):
        source = random.Random(43)
        for way_of in ways.SIGNING:
            way = way_of(source)
            pair = ways.made_pair(way, source, 0)
            public = way.key[-1]
            for other in ([], [0], public[:-1], public + [0]):
                self.raises(Refused, ACCUSE[way.word], *way.key[:-1], other, [], *pair)
                self.raises(Refused, ACCUSE[way.word], *way.key[:-1], other, [pair], *pair)

    def test_openings_that_are_none(self):
        way = ways.BatchWay(random.Random(44))
        message, (count, index, path) = way.pair(2)
        size = way.suite.size
        wrong = [(0, 0, []), (65537, 0, path), (10 ** 5000, 0, path), (count, -1, path), (count, count, path),
                 (count, 10 ** 5000, path), (count, index, path[:-1]), (count, index, path + [path[0]]),
                 (count, index, path[:-1] + [[0] * (size + 1)]), (count, index, path[:-1] + [[]]),
                 (count, index, path[:-1] + [[256]]), (count + 4, index, path), (count - 1, index, path),
                 (True, index, path), (count, index), (count, index, path, path), (), None, 7, [count, index, path],
                 (count, index, None), (count, index, tuple(path)), (count, index, [None] * len(path))]
        for opening in wrong:
            self.raises(Refused, accuse_batch, *way.key, [], message, opening)
            self.raises(Refused, accuse_batch, *way.key, [way.pair(0)], message, opening)
        self.assertEqual(accuse_batch(*way.key, [], *way.pair(2))[0], "opened")

    def test_heads_that_are_none(self):
        way = ways.BatchWay(random.Random(45))
        for head in ([], [3], way.head[:-1], way.head + [0], changed(way.head, 0), changed(way.head, 2),
                     changed(way.head, len(way.head) - 1), [3, 0, 0, 0, 0, 5]):
            self.raises(Refused, accuse_batch, way.suite, head, [], *way.pair(1))


class Batches(Case):
    def test_batches_of_every_size(self):
        """The parting of two openings is told (point 61), or a list that was opened."""
        source = random.Random(60)
        words = {"clash": 0, "opened": 0}
        for count in list(range(1, 10)) + [16, 17]:
            for _ in range(4):
                way = ways.BatchWay(source, "small-2", count)
                book = [way.pair(place) for place in source.sample(range(count), source.randrange(min(count, 3)))]
                for pair in [way.pair(place) for place in range(count)]:
                    if pair not in book:
                        paper = accuse_batch(*way.key, book, *pair)
                        self.assertTrue(way.is_good(book, *pair, paper))
                        self.assertIn(way.paper(book, *pair), (None, paper))
                        words[paper[0]] += 1
        self.assertGreater(words["opened"], 50)

    def test_another_batch_with_the_same_head(self):
        source = random.Random(61)
        found = 0
        while found < 5:
            way, other = ways.BatchWay(source, "small-1", 3), ways.BatchWay(source, "small-1", 3)
            if batch_head(way.suite, other.messages) != way.head or way.messages == other.messages:
                continue
            found += 1
            book = [way.pair(place) for place in range(3)]
            for place in range(3):
                pair = other.pair(place)
                if pair not in book:
                    paper = accuse_batch(*way.key, book, *pair)
                    self.assertEqual(paper[0], "clash")
                    self.assertTrue(judge_clash(way.suite, paper))


class Keepers(Case):
    """Point 195: what a keeper made stands in its book, which is plain; everything else tells a paper."""

    def test_tree_keepers(self):
        source = random.Random(51)
        for _ in range(6):
            way = ways.TreeWay(source, height=2)
            disk, book = Disk(64), []
            keeper = TreeKeeper(disk, way.kind, way.identifier, way.seed, 1)
            for k in range(3):
                if k == 2:
                    disk.crash([])
                    keeper = TreeKeeper(disk, way.kind, way.identifier, way.seed, 1)
                message = ways.drawn(source, 2)
                book.append((message, keeper.sign(message)[1]))
            self.check(way, source, book)

    def test_tower_keepers(self):
        source = random.Random(52)
        for _ in range(6):
            way = ways.TowerWay(source)
            disk, book = Disk(64), []
            keeper = TowerKeeper(disk, way.tower, way.identifier, way.seed, 1)
            self.assertEqual(keeper.public(), way.public)
            for _ in range(3):
                message = ways.drawn(source, 2)
                book.append((message, keeper.sign(message)[1]))
            self.check(way, source, book)

    def check(self, way, source, book):
        self.assertEqual(len(way.accepted(book)), 3)
        self.assertEqual(way.used_twice(book), [])
        for pair in book:
            self.raises(Refused, ACCUSE[way.word], *way.key, book, *pair)
        found = ways.strangers(way, source, book, 5, 600)
        self.assertTrue(found)
        for pair in found:
            paper = ACCUSE[way.word](*way.key, book, *pair)
            self.assertIn(paper[0], ("clash", "opened"))
            self.assertTrue(way.is_good(book, *pair, paper))
