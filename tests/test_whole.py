"""The promises that several modules keep together: points 137, 142, 149, 159, 172, 182, 195, 228, 242 and 248."""

import itertools
import random

import reference_log
import reference_tower
import ways
from helpers import Case, kind_of, some_bytes
from sealgrove.accusing import accuse_stateless, accuse_tower, accuse_tree
from sealgrove.books import is_plain, stateless_book, tower_book, tree_book
from sealgrove.coefficients import lower
from sealgrove.disk import Disk
from sealgrove.errors import PowerLost, Refused, UsedUp
from sealgrove.frames import accepts_framed, frame_parts, pure_frame, sign_framed
from sealgrove.granting import carries, pairs_of, text_entry, withdrawals_in
from sealgrove.heads import Watcher, carry_back, consistency_lists, inclusion_lists, two_faces
from sealgrove.house import House, run
from sealgrove.judging import judge_stateless, judge_tower, judge_tree
from sealgrove.keeper import TowerKeeper, TreeKeeper
from sealgrove.keptkeys import KeptKey
from sealgrove.leases import Office, Signer
from sealgrove.lms import tree_root
from sealgrove.lmsforms import read_tree, verify_tree, write_public, write_tree
from sealgrove.logbook import Logbook
from sealgrove.parts import joined_parts, parts_of
from sealgrove.scenario import read_scenario, report, write_scenario
from sealgrove.schemes import Stateless
from sealgrove.stateless import accepts_raw, public_of, sign_raw, stateless_key, things_of
from sealgrove.suites import suite_named
from sealgrove.tower import Tower, TowerSigner, number_in, sign_tower, tower_public, tower_rows, verify_tower
from sealgrove.warrants import message_text, write_warrant, write_withdrawal

I = [3] * 7 + [0] * 9


def crash_sometimes(source, disks):
    for disk in disks:
        if source.randrange(8) == 0:
            disk.crash([source.randrange(4) for _ in range(source.randrange(30))])
        elif source.randrange(8) == 0:
            disk.fail_after(source.randrange(9))


class Towers(Case):
    WORDS = [("small-2", 1, 1), ("small-2", 4, 1), ("small-2", 2, 1)]

    def test_137_what_was_signed_is_accepted_at_its_place(self):
        tower, seed = Tower([kind_of(*level) for level in self.WORDS]), [8, 9]
        public = tower_public(tower, I, seed)
        keeper, signer = TowerKeeper(Disk(64), tower, I, seed, 3), TowerSigner(tower, I, seed)
        house = House(tower, I, seed, 64, 3)
        for number in range(tower.total):
            message = some_bytes(number, 5)
            form = reference_tower.form(self.WORDS, I, seed, number, message)
            house.deed(("sign", tuple(message)))
            self.assertEqual(house.book()[-1], (message, form))
            self.assertEqual([keeper.sign(message)[1], signer.sign(message), sign_tower(tower, I, seed, number, message)],
                             [form] * 3)
            self.assertTrue(verify_tower(public, message, form))
            self.assertEqual(number_in(public, form), number)
        self.assertEqual([house.public(), keeper.public(), signer.public()], [public] * 3)

    def test_142_rows_that_are_all_those_of_another_signature(self):
        met = 0
        for seed in range(6):
            source = random.Random(142 + seed)
            way = ways.TowerWay(source)
            book = [ways.made_pair(way, source, place) for place in range(4)]
            pairs = book + ways.strangers(way, source, book, 5, 300)
            found = [(way.uses(*pair), tower_rows(way.public, *pair)) for pair in pairs]
            for (one, rows), (other, others) in itertools.permutations(found, 2):
                names = [{place[0] for place, _ in part[level:level + 1]} for part in (one, other) for level in (0, 2)]
                listed = {row[0] for row in others}
                if names[0] & (names[1] | names[3]) or not all(row[2] or row[0] in listed for row in rows):
                    continue
                met += 1
                lists = listed | {row[0] for row in rows}
                same = [place for place, _ in one] == [place for place, _ in other]
                self.assertTrue(same or len({way.digest(data) for data in lists}) < len(lists))
        self.assertGreater(met, 3)


class StatelessKeys(Case):
    def test_149_what_was_signed_is_accepted(self):
        for words in (("small-2", 4, 2, 3, 1, 2), ("sha-3", 1, 1, 2, 2, 1)):
            scheme = Stateless(suite_named(words[0]), *words[1:])
            n = scheme.suite.size
            secret = stateless_key(scheme, some_bytes(n, 1), some_bytes(n, 2), some_bytes(n, 3))
            public, book = public_of(scheme, secret), []
            for message in ([], [1], some_bytes(70)):
                for context, digested in (([], False), ([7], False), ([7, 8], True)):
                    signature = sign_framed(scheme, secret, message, context=context, digested=digested)
                    self.assertTrue(accepts_framed(scheme, public, message, signature, context=context, digested=digested))
                    self.assertEqual(joined_parts(scheme, parts_of(scheme, signature)), signature)
                    if not digested:
                        frame = pure_frame(context, message)
                        self.assertEqual(frame_parts(frame), ("pure", context, message))
                        self.assertEqual(sign_raw(scheme, secret, frame), signature)
                        self.assertTrue(accepts_raw(scheme, public, frame, signature))
                        book.append((frame, signature))
            entries = stateless_book(scheme, public, book)
            self.assertEqual([entry[0] for entry in entries], list(range(len(book))))
            self.assertTrue(is_plain(entries))

    def test_159_two_accepted_signatures(self):
        met = {True: 0, False: 0}
        for seed in range(10):
            source = random.Random(159 + seed)
            way = ways.StatelessWay(source, ("small-1", 4, 1, 2, 1, 2))
            book = [ways.made_pair(way, source, 0) for _ in range(3)]
            pairs = book + ways.strangers(way, source, book, 4, 150)
            digits = way.scheme.one_time.digits
            for one, other in itertools.combinations(pairs, 2):
                self.assertEqual(way.digest(way.rows(*one)[0][0]), way.digest(way.rows(*other)[0][0]))
                here, there = (dict(things_of(*way.key, *pair)) for pair in (one, other))
                for place in set(here) & set(there):
                    met[here[place] == there[place]] += 1
                    if here[place] != there[place]:
                        first, second = digits(list(here[place])), digits(list(there[place]))
                        self.assertTrue(lower(first, second) and lower(second, first))
                        entries = stateless_book(*way.key, [one, other])
                        self.assertFalse(is_plain(entries))
        self.assertTrue(met[True] > 20 and met[False] > 0, met)


class Keepers(Case):
    def test_172_no_place_is_used_for_two_messages(self):
        """The numbers in the forms of all keepers of a disk ascend, whatever its crashes keep."""
        source, tower = random.Random(172), Tower([kind_of("small-1", 1, 2), kind_of("small-1", 1, 3)])
        kind, public = kind_of("small-1", 1, 5), tower_public(tower, I, [4])
        for _ in range(12):
            disk, other, forms, keepers = Disk(64), Disk(64), [], []
            keepers = [TowerKeeper(disk, tower, I, [4], 2), TreeKeeper(other, kind, I, [4], 2)]
            numbers = [[], []]
            for k in range(60):
                crash_sometimes(source, [disk, other])
                for at, keeper in enumerate(keepers):
                    try:
                        forms = keeper.sign([k % 7])[1]
                        numbers[at].append(number_in(public, forms) if at == 0 else read_tree(kind, forms)[0])
                    except PowerLost:
                        (disk, other)[at].crash([source.randrange(3) for _ in range(20)])
                    except UsedUp:
                        pass
                    except Refused:
                        keepers[at] = (TowerKeeper(disk, tower, I, [4], 2) if at == 0
                                       else TreeKeeper(other, kind, I, [4], 2))
            for found in numbers:
                self.assertEqual(found, sorted(set(found)))
                self.assertGreater(len(found), 5)

    def test_182_several_signers_of_one_tree_key(self):
        """All signatures of all signers together make a plain book."""
        source, kind, seed = random.Random(182), kind_of("small-2", 1, 5), [4, 4]
        public = write_public(kind, I, tree_root(kind, I, seed))
        for _ in range(6):
            disks, office_disk, book = [Disk(512) for _ in range(3)], Disk(1024), []

            def sign(place, message):
                signature = KeptKey(kind, I, seed, place=place).sign(message)
                book.append((message, write_tree(kind, signature)))
                return book[-1][1]

            office, answers = Office(office_disk, kind.places, 3), []
            signers = [Signer(disk, k, sign, 2) for k, disk in enumerate(disks)]
            for step in range(60):
                crash_sometimes(source, disks + [office_disk])
                k = source.randrange(3)
                try:
                    if signers[k].left() == 0 or source.randrange(5) == 0:
                        answers.append(office.ask(k, signers[k].wanted()))
                        for lease in source.sample(answers, min(2, len(answers))):
                            signers[lease[0]].take(lease)
                    else:
                        place, form = signers[k].sign([step, k])
                        self.assertTrue(verify_tree(public, [step, k], form))
                        self.assertEqual(read_tree(kind, form)[0], place)
                except PowerLost:
                    for disk in disks + [office_disk]:
                        disk.crash([source.randrange(3) for _ in range(30)])
                except Refused:
                    office = Office(office_disk, kind.places, 3)
                    signers = [Signer(disk, k, sign, 2) for k, disk in enumerate(disks)]
                except UsedUp:
                    pass
            entries = tree_book(public, book)
            self.assertEqual(len(entries), len(book))
            self.assertGreater(len(book), 5)
            self.assertTrue(is_plain(entries))

    def test_195_whoever_makes_another_signature_tells_a_paper(self):
        """For keepers and for stateless keys: what was not made tells a paper, and the judge finds it good."""
        words = {}
        for seed in range(8):
            source = random.Random(195 + seed)
            tree, tower = ways.TreeWay(source, height=3), ways.TowerWay(source, heights=(2, 1))
            stateless = ways.StatelessWay(source, ("small-1", 1, 1, 2, 1, 1))
            keepers = [TreeKeeper(Disk(64), tree.kind, tree.identifier, tree.seed, 2),
                       TowerKeeper(Disk(64), tower.tower, tower.identifier, tower.seed, 2)]
            messages = [ways.drawn(source, 2) for _ in range(3)]
            books = [[(message, keeper.sign(message)[1]) for message in messages] for keeper in keepers]
            books.append([(message, stateless.sign(0, message)) for message in messages])
            for way, book, accuse, judge in zip((tree, tower, stateless), books,
                                                (accuse_tree, accuse_tower, accuse_stateless), (judge_tree, judge_tower, None)):
                self.assertEqual(way.used_twice(book), [])
                for pair in ways.strangers(way, source, book, 3, 200):
                    paper = accuse(*way.key, book, *pair)
                    words[paper[0]] = words.get(paper[0], 0) + 1
                    good = judge(*way.key, book, paper) if judge else judge_stateless(*way.key, book, *pair, paper)
                    self.assertIs(good, True)
                    self.assertTrue(way.is_good(book, *pair, paper))
                    self.assertNotEqual(paper[0], "twice")
        self.assertLessEqual({"clash", "opened", "covered"}, set(words), words)


class Logs(Case):
    NAME = "small-1"

    def test_228_a_log_cannot_show_two_faces(self):
        """A log that tells each of two persons another entry, both under heads that a watcher took."""
        source, suite, made = random.Random(228), suite_named(self.NAME), 0
        for _ in range(40):
            log, watcher, heads, paths = Logbook(suite), Watcher(suite), [], []
            for _ in range(3):
                for _ in range(source.randrange(1, 4)):
                    log.append(text_entry(ways.drawn(source, 2), ways.drawn(source, 3)))
                path = log.consistency(watcher.head()[0])
                self.assertIs(watcher.take(log.head(), path), True)
                paths.append(path)
                heads.append(watcher.head())
            index = source.randrange(heads[0][0])
            one = (log.entry(index), log.inclusion(index, heads[0][0]))
            for k in range(300):
                entry = text_entry([k % 256, k // 256], [9])
                if reference_log.inclusion_lists(self.NAME, heads[-1], index, entry, log.inclusion(index)) is None:
                    continue
                made += 1
                other = (entry, log.inclusion(index))
                clash = two_faces(suite, heads, paths[1:], index, one, other)
                lists = inclusion_lists(suite, heads[0], index, *one) + inclusion_lists(suite, heads[-1], index, *other)
                for first, second, path in zip(heads, heads[1:], paths[1:]):
                    lists += consistency_lists(suite, first, second, path)
                self.assertTrue(clash[1] in lists and clash[2] in lists and clash[1] != clash[2])
                self.assertEqual(suite.digest(list(clash[1])), suite.digest(list(clash[2])))
                back = carry_back(suite, heads[1], heads[2], paths[2], index, *other)
                self.assertIn(back[0], ("path", "clash"))
                break
        self.assertGreater(made, 10)

    def test_242_what_a_chain_carries_stands_in_the_books(self):
        """Three keepers with a book each; the last one signs messages under a chain of warrants."""
        kinds = [kind_of("small-2", 1, 2), kind_of("small-2", 1, 1)]
        tower = Tower(kinds)
        keepers = [TowerKeeper(Disk(64), tower, [k] * 7 + [0] * 9, [k, 5], 2) for k in range(3)]
        publics, books = [keeper.public() for keeper in keepers], [[], [], []]

        def sign(k, text):
            books[k].append((text, keepers[k].sign(text)[1]))
            return books[k][-1][1]

        warrants = [(tuple(publics[k + 1]), 10, 20, 0, 7, 1 - k, (104,)) for k in range(2)]
        chain = [(warrant, sign(k, write_warrant(warrant))) for k, warrant in enumerate(warrants)]
        log = Logbook(suite_named("small-8"))
        for message in ([104], [104, 105]):
            signature = sign(2, message_text(message))
            self.assertTrue(carries(publics[0], chain, message, signature, withdrawals_in(log.entries()), 15))
            for k, (public, text, part) in enumerate(pairs_of(publics[0], chain, message, signature)):
                self.assertEqual(public, publics[k])
                self.assertIn((text, part), books[k])
                self.raises(Refused, accuse_tower, public, books[k], text, part)
        # The last message was never signed by the keeper: somebody else has its seed.
        message = [104, 1]
        signature = sign_tower(tower, [2] * 7 + [0] * 9, [2, 5], 5, message_text(message))
        self.assertTrue(carries(publics[0], chain, message, signature, [], 15))
        public, text, part = pairs_of(publics[0], chain, message, signature)[2]
        paper = accuse_tower(public, books[2], text, part)
        self.assertIs(judge_tower(public, books[2], paper), True)
        # A withdrawal in the log strikes, and stays in each longer log.
        withdrawal = (warrants[1], 15)
        log.append(text_entry(write_withdrawal(withdrawal), sign(1, write_withdrawal(withdrawal))))
        found = withdrawals_in(log.entries())
        self.assertEqual([carries(publics[0], chain, message, signature, found, day) for day in (14, 15)], [True, False])


class Houses(Case):
    def test_248_whatever_deeds_were_done(self):
        source, words = random.Random(248), set()
        for _ in range(8):
            tower = Tower([kind_of("small-1", 1, 1), kind_of("small-1", 1, 2)])
            house, outcomes, accused = House(tower, I, [source.randrange(256)], 64, 2), [], []
            for step in range(200):
                data = tuple(ways.drawn(source, 1))
                index = source.randrange(4)
                deed = source.choice((
                    ("sign", data), ("sign", data), ("fail", source.randrange(7)), ("crash", tuple(ways.drawn(source, 9))),
                    ("open",), ("open",), ("skip", source.randrange(2))))
                if step > 20:
                    changes = ((source.randrange(120), source.randrange(256)),) * source.randrange(2)
                    deed = ("offer", index, data, changes)
                # The deed goes through a scenario, and the outcome through a report.
                [read] = read_scenario(write_scenario([deed]))
                book = house.book()
                [outcome] = run(house, [read])
                self.assertEqual(report([outcome]).split()[0], outcome[0])
                outcomes.append(outcome)
                if outcome[0] == "accused":
                    accused.append((book, deed, outcome[1]))
            places = [outcome[1] for outcome in outcomes if outcome[0] == "signed"]
            self.assertEqual(places, sorted(set(places)))
            public, book = house.public(), house.book()
            self.assertTrue(all(verify_tower(public, *pair) for pair in book))
            self.assertEqual([number_in(public, signature) for _, signature in book], places)
            self.assertTrue(is_plain(tower_book(public, book)))
            for book, (_, index, data, changes), word in accused:
                signature = list(book[index][1])
                for at, value in changes:
                    signature[at:at + 1] = [value] if at < len(signature) else []
                paper = accuse_tower(public, book, list(data), signature)
                self.assertEqual(paper[0], word)
                self.assertIs(judge_tower(public, book, paper), True)
                words.add(word)
        self.assertTrue(words and words <= {"clash", "opened"})
