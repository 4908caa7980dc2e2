"""Points 245 to 248: houses."""

import random

import reference_granting
import reference_log
import reference_tower
import ways
from helpers import Case, kind_of
from reference import num
from sealgrove.accusing import accuse_tower
from sealgrove.books import is_plain, tower_book
from sealgrove.disk import Disk
from sealgrove.errors import Malformed, OutOfRange, PowerLost, Refused, UsedUp
from sealgrove.house import House, run
from sealgrove.judging import judge_tower
from sealgrove.keeper import TowerKeeper
from sealgrove.tower import Tower, sign_tower, tower_public, verify_tower

I = [7] * 7 + [0] * 9


def tower_of(words):
    return Tower([kind_of(*level) for level in words])


class Plain:
    """A house by the words of the points, made of a disk and of keepers."""

    def __init__(self, tower, identifier, seed, size, block):
        self.key, self.block = (tower, identifier, seed), block
        self.name = tower.suite.name
        self.disk = Disk(size)
        self.keeper = self.opened()
        self.public = tower_public(*self.key)
        self.book, self.log = [], []
        self.papers = []

    def opened(self):
        return TowerKeeper(self.disk, *self.key, self.block)

    def kept(self, name, part):
        if name == "sign":
            place, signature = self.keeper.sign(list(part))
            self.book.append((list(part), signature))
            self.log.append(reference_granting.entry(list(part), signature))
            return "signed", place
        if name == "skip":
            self.keeper.skip(part)
            return "skipped", part
        self.keeper = self.opened()
        return "opened", self.keeper.next_place()

    def offered(self, index, data, changes):
        if index >= len(self.book):
            return ("nothing",)
        signature = list(self.book[index][1])
        for at, value in changes:
            if at < len(signature):
                signature[at] = value
        pair = (list(data), signature)
        if not verify_tower(self.public, *pair):
            return ("wrong",)
        if pair in self.book:
            return "known", self.book.index(pair)
        paper = accuse_tower(self.public, self.book, *pair)
        self.papers.append((list(self.book), paper))
        return "accused", paper[0]

    def deed(self, deed):
        name = deed[0]
        if name == "fail":
            self.disk.fail_after(deed[1])
            return "set", deed[1]
        if name == "crash":
            self.disk.crash(list(deed[1]))
            return ("crashed",)
        if name == "offer":
            return self.offered(*deed[1:])
        if name == "head":
            if deed[1] > len(self.log):
                return ("nothing",)
            return "head", deed[1], tuple(reference_log.log_digest(self.name, self.log[:deed[1]]))
        try:
            return self.kept(name, deed[1] if len(deed) > 1 else None)
        except PowerLost:
            return ("power",)
        except (UsedUp, OutOfRange):
            return ("used",)
        except Refused:
            return ("stale",)


def drawn_deed(source, house):
    """A deed that fits somehow to a plain house."""
    data = tuple(source.randrange(256) for _ in range(source.choice((0, 1, 2, 3))))
    what = source.randrange(20)
    if what < 7:
        return "sign", data
    if what == 7:
        return "skip", source.choice((0, 1, 2, 5, 1000000))
    if what == 8:
        return "fail", source.choice((0, 1, 2, 3, 4, 5, 9, 1000000))
    if what == 9:
        return "crash", tuple(source.randrange(256) for _ in range(source.randrange(20)))
    if what < 13:
        return ("open",)
    if what == 13:
        return "head", source.choice((0, 1, len(house.log), len(house.log) + 1, 1000000, len(house.log) // 2))
    index = source.randrange(len(house.book) + 1)
    if index < len(house.book) and source.randrange(3) > 0:
        message, signature = house.book[index]
        if source.randrange(2) == 0:
            data = tuple(message)
        size = len(signature)
    else:
        size = 50
    changes = tuple((source.choice((source.randrange(size), size - 1, size, 1000000)), source.randrange(256))
                    for _ in range(source.choice((0, 0, 1, 1, 2, 16))))
    return "offer", index, data, changes


class Houses(Case):
    def check(self, house, plain):
        """The book, the log and the public key behind a deed, and point 248."""
        self.assertEqual(house.public(), plain.public)
        self.assertEqual(house.book(), plain.book)
        self.assertEqual(house.log(), plain.log)

    def test_drawn_rows_of_deeds(self):
        words = {}
        for seed in range(45):
            source = random.Random(245 + seed)
            levels = source.choice(([("small-1", 1, 1), ("small-1", 1, 2)], [("small-1", 1, 2)], [("small-2", 1, 3)],
                                    [("small-1", 1, 1), ("small-1", 2, 1), ("small-1", 1, 1)]))
            tower, size, block = tower_of(levels), source.choice((64, 65, 100)), source.randrange(1, 4)
            key = [source.randrange(256) for _ in range(tower.suite.size)]
            house, plain = House(tower, I, key, size, block), Plain(tower, I, key, size, block)
            outcomes = []
            for _ in range(50):
                deed = drawn_deed(source, plain)
                outcome = house.deed(deed)
                self.assertIs(type(outcome), tuple)
                self.assertEqual(outcome, plain.deed(deed), deed)
                self.check(house, plain)
                outcomes.append(outcome)
                words[outcome[0]] = words.get(outcome[0], 0) + 1
            places = [outcome[1] for outcome in outcomes if outcome[0] == "signed"]
            self.assertEqual(places, sorted(set(places)))
            self.assertEqual(len(house.book()), len(places))
            for place, (message, signature) in zip(places, house.book()):
                self.assertEqual(signature, sign_tower(tower, I, key, place, message))
            entries = tower_book(house.public(), house.book())
            self.assertEqual(len(entries), len(places))
            self.assertTrue(is_plain(entries))
            for book, paper in plain.papers:
                self.assertIn(paper[0], ("clash", "opened"))
                self.assertIs(judge_tower(house.public(), book, paper), True)
        self.assertLessEqual({"signed", "skipped", "set", "crashed", "opened", "power", "used", "stale", "nothing", "wrong",
                              "known", "accused", "head"}, set(words), words)

    def test_houses_that_are_driven_likewise(self):
        tower = tower_of([("small-1", 1, 1), ("small-1", 1, 2)])
        for seed in range(6):
            source = random.Random(seed)
            plain = Plain(tower, I, [5], 64, 2)
            deeds = []
            for _ in range(40):
                deeds.append(drawn_deed(source, plain))
                plain.deed(deeds[-1])
            houses = [House(tower, I, [5], 64, 2) for _ in range(2)]
            before = [list(deed) for deed in deeds]
            outcomes = run(houses[0], deeds)
            self.assertIs(type(outcomes), list)
            self.assertEqual(outcomes, [houses[1].deed(deed) for deed in deeds])
            self.assertEqual([list(deed) for deed in deeds], before)
            self.assertEqual(houses[0].book(), houses[1].book())
            self.assertEqual(houses[0].log(), houses[1].log())
        self.assertEqual(run(House(tower, I, [5], 64, 2), []), [])

    def test_what_is_handed_out_may_be_changed(self):
        tower = tower_of([("small-2", 1, 1)])
        identifier, seed = list(I), [1, 2]
        house = House(tower, identifier, seed, 64, 1)
        identifier[0], seed[0] = 9, 9
        house.deed(("sign", (104, 105)))
        public, book, log = house.public(), house.book(), house.log()
        public[0] = 9
        book[0][0].append(1)
        book[0][1].clear()
        book.append(1)
        log[0].clear()
        log.append(1)
        self.assertEqual(house.public(), tower_public(tower, I, [1, 2]))
        signature = sign_tower(tower, I, [1, 2], 0, [104, 105])
        self.assertEqual(house.book(), [([104, 105], signature)])
        self.assertEqual(house.log(), [[0, 2, 104, 105] + signature])
        house.deed(("open",))
        house.deed(("sign", ()))
        self.assertEqual(house.book()[1], ([], sign_tower(tower, I, [1, 2], 1, [])))


class Making(Case):
    def test_what_is_raised(self):
        tower = tower_of([("small-2", 1, 1)])
        for size in (0, 63, -1, 65537, 10 ** 5000):
            self.raises(OutOfRange, House, tower, I, [1, 2], size, 1)
            self.raises(OutOfRange, House, tower, I, [], size, 0)
        for identifier, seed in ((I[:15], [1, 2]), (I[:15] + [1], [1, 2]), (I, [1]), (I, [1, 2, 3])):
            self.raises(OutOfRange, House, tower, identifier, seed, 64, 1)
        for block in (0, -1, -10 ** 5000):
            self.raises(OutOfRange, House, tower, I, [1, 2], 64, block)
        house = House(tower, I, [1, 2], 65536, 10 ** 30)
        self.assertEqual((house.book(), house.log(), house.public()), ([], [], tower_public(tower, I, [1, 2])))


class Deeds(Case):
    """Each kind of deed written out."""

    WORDS = [("small-2", 1, 1), ("small-2", 1, 1)]

    def house(self, block=2):
        return House(tower_of(self.WORDS), I, [1, 2], 64, block)

    def signature(self, place, message):
        return reference_tower.form(self.WORDS, I, [1, 2], place, message)

    def test_signing(self):
        house = self.house()
        self.assertEqual(run(house, [("sign", (1,))] * 2 + [("sign", ())] * 3), [
            ("signed", 0), ("signed", 1), ("signed", 2), ("signed", 3), ("used",)])
        texts = [[1], [1], [], []]
        book = [(text, self.signature(place, text)) for place, text in enumerate(texts)]
        self.assertEqual(house.book(), book)
        self.assertEqual(house.log(), [num(len(text), 2) + text + signature for text, signature in book])

    def test_long_data(self):
        house = self.house()
        data = (9,) * 2000
        self.assertEqual(house.deed(("sign", data)), ("signed", 0))
        self.assertEqual(house.log()[0][:2], [7, 208])
        self.assertEqual(house.deed(("offer", 0, data, ())), ("known", 0))

    def test_skipping(self):
        house = self.house()
        self.assertEqual(run(house, [("skip", 0), ("skip", 3), ("skip", 2), ("sign", (1,)), ("skip", 0), ("skip", 1),
                                     ("skip", 1000000), ("sign", (1,))]), [
            ("skipped", 0), ("skipped", 3), ("used",), ("signed", 3), ("skipped", 0), ("used",), ("used",), ("used",)])
        self.assertEqual(len(house.book()), 1)

    def test_power_and_crashes(self):
        house = self.house()
        self.assertEqual(run(house, [
            ("sign", (1,)), ("fail", 0), ("sign", (2,)), ("sign", (3,)), ("skip", 1), ("skip", 9), ("open",), ("sign", (4,)),
            ("fail", 1000000), ("sign", (4,)), ("crash", ()), ("sign", (5,)), ("skip", 0), ("skip", 9), ("open",),
            ("sign", (6,)), ("open",), ("sign", (7,)), ("crash", (1, 2, 3)), ("open",)]), [
            ("signed", 0), ("set", 0), ("signed", 1), ("power",), ("power",), ("used",), ("power",), ("power",),
            ("set", 1000000), ("power",), ("crashed",), ("stale",), ("stale",), ("stale",), ("opened", 2),
            ("signed", 2), ("opened", 4), ("used",), ("crashed",), ("opened", 4)])
        self.assertEqual([message for message, _ in house.book()], [[1], [2], [6]])

    def test_crashes_that_keep_a_part(self):
        """A limit that a crash keeps costs its places; one that it loses was never used."""
        for picks, place in (((), 0), ((1,) * 64, 2)):
            house = self.house()
            self.assertEqual(run(house, [("fail", 4), ("sign", (1,)), ("crash", picks), ("open",), ("sign", (2,))]), [
                ("set", 4), ("power",), ("crashed",), ("opened", place), ("signed", place)])
            self.assertEqual(house.book(), [([2], self.signature(place, [2]))])

    def test_offers(self):
        house = self.house()
        run(house, [("sign", (1,)), ("sign", (2,)), ("sign", (2,))])
        size = len(house.book()[0][1])
        self.assertEqual(run(house, [
            ("offer", 3, (1,), ()), ("offer", 1000000, (1,), ((0, 0),)), ("offer", 0, (1,), ()), ("offer", 1, (2,), ()),
            ("offer", 2, (2,), ()), ("offer", 0, (1,), ((size, 7), (1000000, 8))), ("offer", 0, (9,), ()),
            ("offer", 0, (1,), ((size - 1, (house.book()[0][1][-1] + 1) % 256),)), ("offer", 0, (1,), ((0, 5), (0, 0)))]), [
            ("nothing",), ("nothing",), ("known", 0), ("known", 1), ("known", 2), ("known", 0), ("wrong",), ("wrong",),
            ("known", 0)])
        # No index is counted from the end.
        self.assertEqual(run(house, [("offer", -1, (2,), ()), ("offer", 0, (1,), ((-1, 7), (-size, 7)))]), [
            ("nothing",), ("known", 0)])
        self.assertEqual(len(house.book()), 3)

    def test_the_signature_of_another_pair(self):
        """An offer may turn into another pair of the book; the lowest index of the pair is told."""
        house = House(tower_of([("small-1", 1, 0)]), I, [1], 64, 1)
        house.deed(("sign", (1,)))
        self.assertEqual(house.deed(("offer", 0, (1,), ())), ("known", 0))
        house = self.house()
        run(house, [("sign", (1,)), ("sign", (1,))])
        one, other = house.book()[0][1], house.book()[1][1]
        changes = tuple((at, value) for at, value in enumerate(other) if one[at] != value)
        wanted = ("known", 1) if len(changes) <= 16 else None
        if wanted is not None:
            self.assertEqual(house.deed(("offer", 0, (1,), changes)), wanted)
        # More changes than a deed may have still do what they say.
        self.assertEqual(house.deed(("offer", 0, (1,), changes)), ("known", 1))

    def test_accusations(self):
        """With digests of one byte somebody finds another message for a signature."""
        house = House(tower_of([("small-1", 1, 1), ("small-1", 1, 1)]), I, [1], 64, 2)
        run(house, [("sign", (1,)), ("sign", (2,))])
        told = run(house, [("offer", 0, (a, b), ()) for a in range(60) for b in range(20)])
        accused = [outcome for outcome in told if outcome != ("wrong",)]
        self.assertTrue(accused)
        self.assertLessEqual(set(accused), {("accused", "clash"), ("accused", "opened")})

    def test_heads(self):
        house = self.house()
        run(house, [("sign", (1,)), ("sign", (2,)), ("sign", (3,))])
        log = house.log()
        for count in range(4):
            digest = tuple(reference_log.log_digest("small-2", log[:count]))
            self.assertEqual(house.deed(("head", count)), ("head", count, digest))
        for count in (4, 1000000, -1):
            self.assertEqual(house.deed(("head", count)), ("nothing",))

    def test_an_opening_that_fails_leaves_the_keeper(self):
        house = self.house(3)
        self.assertEqual(run(house, [("sign", (1,)), ("fail", 0), ("skip", 3), ("open",), ("sign", (2,)), ("skip", 0),
                                     ("crash", ()), ("open",)]), [
            ("signed", 0), ("set", 0), ("power",), ("power",), ("signed", 1), ("skipped", 0), ("crashed",), ("opened", 3)])


class Great(Case):
    def test_signatures_that_are_longer_than_entries(self):
        """A signature of a tower of eight levels may have more bytes than an entry that others put into a log."""
        house = House(tower_of([("sha-32", 1, 0)] * 8), I, list(range(32)), 64, 1)
        self.assertEqual(run(house, [("sign", (104,)), ("sign", (1,))]), [("signed", 0), ("used",)])
        self.assertGreater(len(house.log()[0]), 65536)
        self.assertEqual(house.deed(("head", 1))[2], tuple(reference_log.log_digest("sha-32", house.log())))
        self.assertEqual(house.deed(("offer", 0, (104,), ())), ("known", 0))
