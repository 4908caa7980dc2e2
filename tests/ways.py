"""Ways of signing for the tests of the accuser and of the judge, with the rules of part 9 by their words.

Each way has keys of its own, so that it can make signatures that nobody made, and that are accepted.
"""

import reference
from sealgrove.batch import batch_head, batch_opening, batch_rows, opened_head
from sealgrove.coefficients import OneTime
from sealgrove.errors import Malformed, OutOfRange
from sealgrove.forest import forest_candidate, forest_sign
from sealgrove.hyper import hyper_sign
from sealgrove.lms import TreeKind, child, sign_tree, tree_root
from sealgrove.lmsforms import lms_rows, write_public, write_tree
from sealgrove.octets import u32
from sealgrove.onetime import lmots_rows, one_time_key, sign_once, write_once, write_once_key
from sealgrove.parts import joined_parts, parts_of
from sealgrove.schemes import Stateless
from sealgrove.stateless import (
    message_parts, public_of, shown_leaves, sign_raw, stateless_key, stateless_rows, things_of,
)
from sealgrove.suites import suite_named
from sealgrove.tower import Tower, sign_tower, tower_public, tower_rows


def drawn(source, count):
    return [source.randrange(256) for _ in range(count)]


def exact(one, other):
    """Equal, and of the same kinds throughout."""
    if type(one) is not type(other):
        return False
    if isinstance(one, (tuple, list)):
        return len(one) == len(other) and all(exact(a, b) for a, b in zip(one, other))
    return one == other


def is_byte_tuple(value):
    return type(value) is tuple and all(type(item) is int and 0 <= item <= 255 for item in value)


class Way:
    """What all ways share: pairs are accepted if they have rows."""

    has_places = True

    def digest(self, data):
        return tuple(reference.digest(self.name, list(data)))

    def seen(self, pair):
        """The rows of a pair, which are worked out once."""
        kept = vars(self).setdefault("kept", {})
        word = repr(pair)
        if word not in kept:
            kept[word] = self.rows(*pair)
        return kept[word]

    def accepted(self, book):
        """The accepted pairs with their indexes and rows."""
        found = [(index, self.seen(pair)) for index, pair in enumerate(book)]
        return [(index, rows) for index, rows in found if rows is not None]

    def known(self, book):
        """The known lists and the known digests (point 191)."""
        rows = [row for _, found in self.accepted(book) for row in found]
        return {row[0] for row in rows}, {tuple(self.root)} | {item for row in rows for item in row[1]}

    def used_twice(self, book):
        """The places that the book uses for two different things, in the order of point 193."""
        first, twice = {}, []
        for index, _ in self.accepted(book):
            for place, thing in self.uses(*book[index]):
                if first.setdefault(place, thing) != thing:
                    twice.append(place)
        return twice

    def has_clash(self, book):
        lists = self.known(book)[0]
        return len({self.digest(data) for data in lists}) < len(lists)

    def covering(self, book, message, signature):
        """For each tree of the forest, the indexes of the accepted pairs that show the leaf."""
        return []

    def paper(self, book, message, signature):
        """The paper of point 193, or None for rule 1, which does not tell which lists."""
        if self.has_clash(book):
            return None
        if self.used_twice(book):
            return "twice", self.used_twice(book)[0]
        lists = self.known(book)[0]
        for data, _, loose in self.rows(message, signature):
            if data not in lists:
                same = [other for other in lists if self.digest(other) == self.digest(data)]
                assert same or not loose
                return ("clash", same[0], data) if same else ("opened", data)
        return "covered", tuple(numbers[0] for numbers in self.covering(book, message, signature))

    def is_good(self, book, message, signature, paper):
        """Point 192."""
        if type(paper) is not tuple or len(paper) not in (2, 3):
            return False
        lists, digests = self.known(book)
        if paper[0] == "clash" and len(paper) == 3:
            return (is_byte_tuple(paper[1]) and is_byte_tuple(paper[2]) and paper[1] != paper[2]
                    and self.digest(paper[1]) == self.digest(paper[2]))
        if len(paper) != 2:
            return False
        if paper[0] == "opened":
            return is_byte_tuple(paper[1]) and paper[1] not in lists and self.digest(paper[1]) in digests
        if paper[0] == "twice":
            return any(exact(place, paper[1]) for place in self.used_twice(book))
        if paper[0] == "covered" and self.seen((message, signature)) is not None:
            wanted = self.covering(book, message, signature)
            return (type(paper[1]) is tuple and len(paper[1]) == len(wanted) > 0
                    and all(any(exact(number, other) for other in numbers)
                            for number, numbers in zip(paper[1], wanted)))
        return False

    def changed(self, source, message, signature):
        """A pair near this one."""
        message, signature = list(message), list(signature)
        what = source.randrange(5)
        if what == 0:
            return drawn(source, source.randrange(1, 4)), signature
        for _ in range(source.choice((1, 1, 2))):
            signature[source.randrange(len(signature))] = source.randrange(256)
        return message, signature


class OneTimeWay(Way):
    word, places = "onetime", 1

    def __init__(self, source, name="small-1", width=1):
        self.name, self.suite = name, suite_named(name)
        self.kind = OneTime(self.suite, width)
        self.identifier, self.seed = drawn(source, 16), drawn(source, self.suite.size)
        self.q = source.randrange(2 ** 32)
        self.root = one_time_key(self.kind, self.identifier, self.q, self.seed)
        self.public = write_once_key(self.kind, self.identifier, self.q, self.root)
        self.key = (self.public,)

    def sign(self, place, message):
        return write_once(self.kind, sign_once(self.kind, self.identifier, self.q, self.seed, message))

    def rogue(self, place, message):
        return self.sign(place, message)

    def rows(self, message, signature):
        return lmots_rows(self.public, message, signature)

    def uses(self, message, signature):
        return [((tuple(self.identifier), self.q), (tuple(message), tuple(signature)))]


class TreeWay(Way):
    word = "tree"

    def __init__(self, source, name="small-1", width=1, height=2):
        self.name, self.suite = name, suite_named(name)
        self.kind, self.places = TreeKind(OneTime(self.suite, width), height), 2 ** height
        self.identifier, self.seed = drawn(source, 16), drawn(source, self.suite.size)
        self.root = tree_root(self.kind, self.identifier, self.seed)
        self.public = write_public(self.kind, self.identifier, self.root)
        self.key = (self.public,)

    def sign(self, place, message):
        return write_tree(self.kind, sign_tree(self.kind, self.identifier, self.seed, place, message))

    def rogue(self, place, message):
        return self.sign(place, message)

    def rows(self, message, signature):
        return lms_rows(self.public, message, signature)

    def uses(self, message, signature):
        return [once_use(self.kind, self.identifier, message, signature)]


def once_size(kind):
    return 4 + kind.suite.size * (kind.one_time.p + 1)


def once_use(kind, identifier, message, form):
    """The place and the thing of a form of a tree signature."""
    q = reference.number(form[:4])
    return (tuple(identifier), q), (tuple(message), tuple(form[4:4 + once_size(kind)]))


class TowerWay(Way):
    word = "tower"

    def __init__(self, source, name="small-1", heights=(1, 1), width=1):
        self.name, self.suite = name, suite_named(name)
        self.kinds = [TreeKind(OneTime(self.suite, width), height) for height in heights]
        self.tower = Tower(self.kinds)
        self.places = self.tower.total
        self.identifier, self.seed = drawn(source, 7) + [0] * 9, drawn(source, self.suite.size)
        self.public = tower_public(self.tower, self.identifier, self.seed)
        self.root = self.public[28:]
        self.key = (self.public,)

    def sign(self, place, message):
        return sign_tower(self.tower, self.identifier, self.seed, place, message)

    def rogue(self, place, message, seed=(1, 2, 3), identifier=None):
        """A signature in which the tree of the last level was made from another seed."""
        places = self.tower.places(place)
        key, data = (self.identifier, self.seed), u32(len(places) - 1)
        for level, q in enumerate(places[:-1]):
            kind, below = self.kinds[level], self.kinds[level + 1]
            other = child(kind, *key, q)
            if level == len(places) - 2:
                other = (other[0] if identifier is None else identifier, (list(seed) * 32)[:self.suite.size])
            form = write_public(below, other[0], tree_root(below, *other))
            data = data + write_tree(kind, sign_tree(kind, *key, q, form)) + form
            key = other
        return data + write_tree(self.kinds[-1], sign_tree(self.kinds[-1], *key, places[-1], message))

    def rows(self, message, signature):
        return tower_rows(self.public, message, signature)

    def uses(self, message, signature):
        out, above, form, rest = [], (), self.public[4:], signature[4:]
        for level, kind in enumerate(self.kinds):
            identifier = tuple(form[8:24])
            out.append(((identifier,), (tuple(form), above)))
            size = once_size(kind) + 8 + self.suite.size * kind.height
            part, rest = rest[:size], rest[size:]
            text = message
            if level + 1 < len(self.kinds):
                text, rest = rest[:24 + self.suite.size], rest[24 + self.suite.size:]
            out.append(once_use(kind, identifier, text, part))
            above, form = above + (out[-1][0][1],), text
        return out


class StatelessWay(Way):
    word, places = "stateless", 1000

    def __init__(self, source, words=("small-1", 1, 1, 2, 1, 2)):
        self.name, self.suite, n = words[0], suite_named(words[0]), reference.size(words[0])
        self.scheme = Stateless(self.suite, *words[1:])
        self.secret = stateless_key(self.scheme, drawn(source, n), drawn(source, n), drawn(source, n))
        self.public = public_of(self.scheme, self.secret)
        self.root = self.public[n:]
        self.key = (self.scheme, self.public)

    def sign(self, place, message):
        return sign_raw(self.scheme, self.secret, message)

    def rogue(self, place, message, other=(9,)):
        """A signature whose forest was made from another secret seed."""
        n = self.suite.size
        randomizer = parts_of(self.scheme, self.sign(place, message))[0]
        picked, at = message_parts(self.scheme, self.public, message, randomizer)
        shown = forest_sign(self.scheme, self.public[:n], (list(other) * 32)[:n], at, picked)
        data = forest_candidate(self.scheme, self.public[:n], at, picked, shown)
        hyper = hyper_sign(self.scheme, self.public[:n], self.secret[:n], at, data)
        return joined_parts(self.scheme, (randomizer, shown, hyper))

    def rows(self, message, signature):
        return stateless_rows(self.scheme, self.public, message, signature)

    def uses(self, message, signature):
        return things_of(self.scheme, self.public, message, signature)

    def leaves(self, message, signature):
        tree, leaf, picks = shown_leaves(self.scheme, self.public, message, signature)
        return [(tree, leaf, pick) for pick in picks]

    def covering(self, book, message, signature):
        shown = [(index, self.leaves(*book[index])) for index, _ in self.accepted(book)]
        return [[index for index, leaves in shown if leaf in leaves] for leaf in self.leaves(message, signature)]


class BatchWay(Way):
    """Pairs of messages and openings; nothing is signed here."""

    word, has_places = "batch", False

    def __init__(self, source, name="small-1", count=5):
        self.name, self.suite, self.places = name, suite_named(name), count
        self.messages = [drawn(source, source.randrange(4)) for _ in range(count)]
        self.head = batch_head(self.suite, self.messages)
        self.root = self.head[5:]
        self.key = (self.suite, self.head)

    def pair(self, place):
        return self.messages[place], batch_opening(self.suite, self.messages, place)

    def rows(self, message, opening):
        try:
            if opened_head(self.suite, message, opening) != self.head:
                return None
        except (OutOfRange, Malformed):
            return None
        return batch_rows(self.suite, message, opening)

    def uses(self, message, opening):
        return []

    def changed(self, source, message, opening):
        count, index, path = opening
        path = [list(value) for value in path]
        what = source.randrange(4)
        if what == 0:
            return drawn(source, source.randrange(4)), (count, index, path)
        if what == 1 or not path:
            return message, (count, source.randrange(count), path)
        path[source.randrange(len(path))] = drawn(source, self.suite.size)
        return message, (count, index, path)


SIGNING = (OneTimeWay, TreeWay, TowerWay, StatelessWay)


def made_pair(way, source, place):
    """A pair that a signer makes at a place."""
    if way.word == "batch":
        return way.pair(place)
    message = drawn(source, source.randrange(1, 4))
    return message, way.sign(place, message)


def a_book(way, source, most=3):
    """A book with pairs at different places, and perhaps one that uses a place again, and one that is not accepted."""
    count = source.randrange(min(most, way.places) + 1)
    places = source.sample(range(way.places), count)
    book = [made_pair(way, source, place) for place in places]
    if book and way.has_places and source.randrange(4) == 0:
        message = drawn(source, 4)
        book.append((message, way.rogue(source.choice(places), message)))
    if book and source.randrange(3) == 0:
        wrong = way.changed(source, *book[0])
        if way.rows(*wrong) is None:
            book.insert(source.randrange(len(book) + 1), wrong)
    return book


def strangers(way, source, book, count, tries):
    """Accepted pairs that do not stand in the book."""
    out = []
    first = made_pair(way, source, source.randrange(way.places))
    candidates = [first]
    if way.has_places:
        message = drawn(source, 3)
        candidates.append((message, way.rogue(source.randrange(way.places), message)))
    bases = [first] + [pair for pair in book if way.rows(*pair) is not None]
    for _ in range(tries):
        if len(out) == count:
            break
        pair = candidates.pop() if candidates and len(out) < 2 else way.changed(source, *source.choice(bases))
        if pair not in book and way.rows(*pair) is not None:
            out.append(pair)
    return out
