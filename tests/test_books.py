"""Points 190, 191 and 194: the accepted pairs of books, their rows, places and things."""

import random

import ways
from helpers import Case, changed, shorter_and_longer
from sealgrove.books import is_plain, onetime_book, stateless_book, tower_book, tree_book

BOOKS = {"onetime": onetime_book, "tree": tree_book, "tower": tower_book, "stateless": stateless_book}


def samples(rounds):
    for way_of in ways.SIGNING:
        for seed in range(rounds):
            yield way_of(random.Random(190 + seed)), random.Random(191 + seed)


class Books(Case):
    def check(self, way, book):
        found = self.pure(BOOKS[way.word], *way.key, book)
        self.assertIs(type(found), list)
        self.assertEqual([(index, rows) for index, rows, _, _ in found], way.accepted(book))
        uses, things = [], []
        for index, _, places, told in found:
            known = way.uses(*book[index])
            self.assertTrue(type(places) is list and type(told) is list)
            self.assertTrue(ways.exact(places, [place for place, _ in known]))
            self.assertEqual(len(told), len(places))
            uses.extend(known)
            things.extend(told)
        # Two things are the same here exactly if they are the same by the words of the point.
        for k in range(len(uses)):
            for j in range(k):
                if uses[k][0] == uses[j][0]:
                    self.assertEqual(things[k] == things[j], uses[k][1] == uses[j][1])
        self.assertIs(self.pure(is_plain, found), not way.used_twice(book))
        return found

    def test_empty_books(self):
        for way, _ in samples(1):
            self.assertEqual(self.check(way, []), [])

    def test_drawn_books(self):
        plain = {True: 0, False: 0}
        for way, source in samples(25):
            found = self.check(way, ways.a_book(way, source))
            plain[is_plain(found)] += 1
        self.assertTrue(plain[True] > 30 and plain[False] > 5, plain)

    def test_pairs_that_are_not_accepted(self):
        for way, source in samples(2):
            good = ways.made_pair(way, source, 0)
            message, signature = good
            book = [([], []), good, (message, []), (message + [1], signature), (message, signature[:-1]), good,
                    (message, signature + [0]), (message, changed(signature, 0)), ([0] * 65536, signature)]
            book += [(message, other) for other in list(shorter_and_longer(signature))[::7]]
            found = self.check(way, book)
            self.assertLessEqual({1, 5}, {index for index, _, _, _ in found})

    def test_long_messages(self):
        """No signature of a message of more than 65536 bytes is accepted; the stateless way has no such bound."""
        for way, source in samples(1):
            _, signature = ways.made_pair(way, source, 0)
            if way.word != "stateless":
                self.assertEqual(BOOKS[way.word](*way.key, [([0] * 65537, signature)]), [])
            long = [0] * 65536
            self.assertEqual(len(BOOKS[way.word](*way.key, [(long, way.sign(0, long))])), 1)

    def test_public_keys_that_are_no_form(self):
        for way, source in samples(2):
            book = [ways.made_pair(way, source, 0)]
            public = way.key[-1]
            wrong = [[], [0], public[:-1], public + [0], public[1:], public + public]
            if way.word != "stateless":
                wrong += [changed(public, 0), changed(public, 1), [0] * len(public)]
            for other in wrong:
                self.assertEqual(self.pure(BOOKS[way.word], *way.key[:-1], other, book), [])

    def test_public_keys_of_others(self):
        for way, source in samples(2):
            book = [ways.made_pair(way, source, 0)]
            public = way.key[-1]
            other = changed(public, len(public) - 1)
            self.assertEqual(BOOKS[way.word](*way.key[:-1], other, book), [])

    def test_the_places_written_out(self):
        source = random.Random(5)
        way = ways.OneTimeWay(source)
        [(_, _, places, _)] = onetime_book(way.public, [([1], way.sign(0, [1]))])
        self.assertEqual(places, [(tuple(way.identifier), way.q)])
        way = ways.TreeWay(source)
        [(_, _, places, _)] = tree_book(way.public, [([1], way.sign(3, [1]))])
        self.assertEqual(places, [(tuple(way.identifier), 3)])
        way = ways.TowerWay(source, heights=(1, 2, 1))
        [(_, _, places, _)] = tower_book(way.public, [([1], way.sign(11, [1]))])
        # 11 is 1 at the highest level, then 1 of 4, and then 1 of 2.
        first = tuple(way.identifier)
        second, third = first[:7] + (1,) + (0,) * 7 + (1,), first[:7] + (2,) + (0,) * 7 + (5,)
        self.assertEqual(places, [(first,), (first, 1), (second,), (second, 1), (third,), (third, 1)])
        way = ways.StatelessWay(source)
        [(_, _, places, things)] = stateless_book(way.scheme, way.public, [([1], way.sign(0, [1]))])
        self.assertEqual([place[0] for place in places], [1, 0])
        self.assertEqual(list(zip(places, things)), way.uses([1], way.sign(0, [1])))


class Plain(Case):
    def test_messages_signed_at_one_place(self):
        for way, source in samples(2):
            one = ([1], way.sign(0, [1]))
            again = ([2], way.rogue(0, [2]))
            told = BOOKS[way.word]
            self.assertIs(is_plain(told(*way.key, [one])), True)
            self.assertIs(is_plain(told(*way.key, [one, one])), True)
            if way.word != "stateless":
                self.assertIs(is_plain(told(*way.key, [one, again])), False)
                self.assertIs(is_plain(told(*way.key, [again, one])), False)
        self.assertIs(is_plain([]), True)

    def test_different_places(self):
        for way, _ in samples(1):
            if way.word in ("tree", "tower"):
                book = [([place], way.sign(place, [place])) for place in range(way.places)]
                self.assertIs(is_plain(BOOKS[way.word](*way.key, book)), True)

    def test_another_signature_of_the_same_message(self):
        """The thing is the message and the one-time signature: another one at the place is another thing."""
        source = random.Random(1941)
        done = 0
        while done < 3:
            way = ways.OneTimeWay(source)
            message, signature = ways.made_pair(way, source, 0)
            for _ in range(400):
                other = changed(signature, source.randrange(5, len(signature)), source.randrange(1, 256))
                if way.rows(message, other) is not None:
                    done += 1
                    self.assertIs(is_plain(onetime_book(way.public, [(message, signature), (message, other)])), False)
                    break

    def test_a_place_at_two_levels_of_a_tower(self):
        """A tree of the last level that is the highest tree itself signs, too."""
        source = random.Random(1942)
        for place in range(4):
            way = ways.TowerWay(source)
            signature = way.rogue(place, [8], seed=tuple(way.seed), identifier=way.identifier)
            found = tower_book(way.public, [([8], signature)])
            self.assertEqual(len(found), 1)
            [(_, _, places, things)] = found
            own = tuple(way.identifier)
            self.assertEqual(places, [(own,), (own, place // 2), (own,), (own, place % 2)])
            # The public key is the same, but not the numbers of the levels above.
            self.assertNotEqual(things[0], things[2])
            self.assertIs(is_plain(found), False)

    def test_a_tree_below_two_places(self):
        """The same tree below two places is used for different numbers of the levels above."""
        source = random.Random(1943)
        way = ways.TowerWay(source)
        identifier = way.identifier[:7] + [1] + [0] * 8
        book = [([8], way.rogue(place, [8], identifier=identifier)) for place in (0, 2)]
        found = tower_book(way.public, book)
        self.assertEqual(len(found), 2)
        self.assertEqual(found[0][2][2:], found[1][2][2:])
        self.assertNotEqual(found[0][3][2], found[1][3][2])
        self.assertEqual(found[0][3][3], found[1][3][3])
        self.assertIs(is_plain(found), False)
