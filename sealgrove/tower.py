"""Towers: trees that sign the roots of trees below, the lowest of which sign messages (HSS of RFC 8554)."""

from sealgrove.common import need_identifier, need_message, need_size, need_within
from sealgrove.errors import Malformed, OutOfRange, UsedUp
from sealgrove.lms import accepts_tree, child, leaf_value, node_text, sign_tree, tree_root
from sealgrove.lmsforms import public_size, read_public, read_tree, signature_size, tree_rows, write_public, write_tree
from sealgrove.octets import is_bytes, number_of, u32, within
from sealgrove.tree import tree_levels

MOST_LEVELS = 8
MOST_HEIGHT = 60


def same_suite(kind, other):
    """Tell whether two kinds have the same suite."""
    return (kind.suite.core, kind.suite.size) == (other.suite.core, other.suite.size)


class Tower:
    """The kinds of the levels of a tower, the highest one first."""

    def __init__(self, kinds):
        need_within(len(kinds), 1, MOST_LEVELS, "the number of the levels")
        for kind in kinds:
            if not same_suite(kind, kinds[0]):
                raise OutOfRange("the levels have different suites")
        height = sum([kind.height for kind in kinds])
        need_within(height, 0, MOST_HEIGHT, "the height of all levels together")
        self.kinds = tuple(kinds)
        self.suite = kinds[0].suite
        self.total = 1 << height

    def places(self, number):
        """Return the places of the levels for which a place of the tower stands, the highest level first."""
        need_within(number, 0, self.total - 1, "the number")
        found = []
        rest = number
        for kind in reversed(self.kinds):
            found.append(rest % kind.places)
            rest = rest // kind.places
        return found[::-1]

    def number_of(self, places):
        """Return the place of the tower that stands for these places of the levels."""
        if len(places) != len(self.kinds):
            raise OutOfRange("there is not one place for each level")
        need_level_places(self, places)
        return combined(self.kinds, places)


def need_level_places(tower, places):
    """Refuse places of the highest levels that are none."""
    for kind, place in zip(tower.kinds, places):
        need_within(place, 0, kind.places - 1, "a place")


def combined(kinds, places):
    """Return the place of a tower of these kinds that stands for the places of its levels."""
    number = 0
    for kind, place in zip(kinds, places):
        number = number * kind.places + place
    return number


def need_tower_key(tower, identifier, seed):
    """Refuse an identifier that is none of a tower, and a seed that is none."""
    need_identifier(identifier)
    if number_of(identifier[7:]) != 0:
        raise OutOfRange("the last nine bytes of the identifier are not 0")
    need_size(seed, tower.suite.size, "the seed")


def level_key(tower, identifier, seed, places):
    """Return the identifier and the seed of the tree below the places, which are those of the highest levels."""
    need_tower_key(tower, identifier, seed)
    if len(places) >= len(tower.kinds):
        raise OutOfRange("there is no tree below so many places")
    need_level_places(tower, places)
    key = list(identifier), list(seed)
    for kind, place in zip(tower.kinds, places):
        key = child(kind, key[0], key[1], place)
    return key


def tower_form(tower, public):
    """Return the form of the public key of a tower, for that of its highest tree."""
    return u32(len(tower.kinds)) + public


def tower_public(tower, identifier, seed):
    """Return the form of the public key."""
    need_tower_key(tower, identifier, seed)
    kind = tower.kinds[0]
    return tower_form(tower, write_public(kind, identifier, tree_root(kind, identifier, seed)))


def read_tower_public(data):
    """Return the number of the levels, and the kind, the identifier and the root of the highest tree."""
    if not is_bytes(data) or not within(number_of(data[:4]), 1, MOST_LEVELS):
        raise Malformed("the list does not begin with a number of levels")
    kind, identifier, root = read_public(data[4:])
    return number_of(data[:4]), kind, identifier, root


def sign_tower(tower, identifier, seed, number, message):
    """Return the form of the signature of a message at a place."""
    need_tower_key(tower, identifier, seed)
    need_within(number, 0, tower.total - 1, "the number")
    return TowerSigner(tower, identifier, seed, start=number).sign(message)


def kind_below(kind, form):
    """Return the kind that the form of a public key tells, which has the suite of the kind above it."""
    below = read_public(form)[0]
    if not same_suite(kind, below):
        raise Malformed("the levels have different suites")
    return below


def read_tower(public, data):
    """Return the tower signature of which the list is the form, for the form of a public key."""
    levels, kind, _, _ = read_tower_public(public)
    if not is_bytes(data) or number_of(data[:4]) != levels - 1:
        raise Malformed("the signature has another number of levels")
    pairs = []
    height = kind.height
    used = 4
    for _ in range(levels - 1):
        between = used + signature_size(kind)
        behind = between + public_size(kind)
        form = data[between:behind]
        pairs.append((read_tree(kind, data[used:between]), form))
        kind = kind_below(kind, form)
        height += kind.height
        used = behind
    if height > MOST_HEIGHT:
        raise Malformed("the levels are too high together")
    return pairs, read_tree(kind, data[used:])


def write_tower(public, signature):
    """Return the form of a tower signature, for the form of a public key."""
    levels, kind, _, _ = read_tower_public(public)
    pairs, last = signature
    data = u32(levels - 1)
    for part, form in pairs:
        data.extend(write_tree(kind, part) + form)
        kind = kind_below(kind, form)
    data.extend(write_tree(kind, last))
    # Reading refuses what is no signature for this public key.
    read_tower(public, data)
    return data


def level_steps(public, message, signature):
    """Return, for each level, the kind, identifier and root of its tree, what is signed, and the tree signature."""
    pairs, last = signature
    key = read_tower_public(public)[1:]
    steps = []
    for part, form in pairs:
        steps.append((key, form, part))
        key = read_public(form)
    steps.append((key, message, last))
    return [(kind, identifier, root, text, part) for (kind, identifier, root), text, part in steps]


def number_in(public, data):
    """Return the place of the tower at which the signature was made."""
    steps = level_steps(public, [], read_tower(public, data))
    return combined([step[0] for step in steps], [step[4][0] for step in steps])


def verify_tower(public, message, data):
    """Tell whether a form of a public key accepts a form of a tower signature for the message."""
    need_message(message)
    try:
        signature = read_tower(public, data)
    except Malformed:
        return False
    for kind, identifier, root, text, part in level_steps(public, message, signature):
        if not accepts_tree(kind, identifier, root, text, part):
            return False
    return True


def tower_rows(public, message, data):
    """Return the rows of an accepted tower signature, or None if it is not accepted."""
    if not verify_tower(public, message, data):
        return None
    steps = level_steps(public, message, read_tower(public, data))
    rows = []
    for level, (kind, identifier, _, text, part) in enumerate(steps):
        rows.extend(tree_rows(kind, identifier, text, part))
        if level + 1 < len(steps):
            below = steps[level + 1][2]
            rows[-1] = (rows[-1][0], (tuple(below),), True)
    return rows


class LevelTree:
    """A tree of a level with all its nodes, which signs at any place without being made again."""

    def __init__(self, kind, identifier, seed):
        self.kind = kind
        self.identifier = identifier
        self.seed = seed
        leaves = [leaf_value(kind, identifier, seed, q) for q in range(kind.places)]
        self.nodes = tree_levels(kind.suite, leaves, node_text(kind, identifier))

    def public(self):
        """Return the form of the public key of the tree."""
        return write_public(self.kind, self.identifier, self.nodes[-1][0])

    def sign(self, q, message):
        """Return the form of the tree signature at a place."""
        path = [self.nodes[level][(q >> level) ^ 1] for level in range(self.kind.height)]
        return write_tree(self.kind, sign_tree(self.kind, self.identifier, self.seed, q, message, path=path))


class TowerSigner:
    """A signer that uses the places of a tower in ascending order."""

    def __init__(self, tower, identifier, seed, *, start=0):
        need_tower_key(tower, identifier, seed)
        need_within(start, 0, tower.total, "the start")
        self._tower = tower
        self._identifier = list(identifier)
        self._seed = list(seed)
        self._next = start
        self._trees = {}

    def _tree(self, places):
        # Only the tree that was used last is kept at each level, with the places above it.
        level = len(places)
        if level not in self._trees or self._trees[level][0] != places:
            identifier, seed = level_key(self._tower, self._identifier, self._seed, places)
            self._trees[level] = places, LevelTree(self._tower.kinds[level], identifier, seed)
        return self._trees[level][1]

    def public(self):
        """Return the form of the public key."""
        return tower_form(self._tower, self._tree([]).public())

    def next_number(self):
        """Return the next place."""
        return self._next

    def left(self):
        """Return how many places are left."""
        return self._tower.total - self._next

    def sign(self, message):
        """Return the form of the signature at the next place, which is then used."""
        if self.left() == 0:
            raise UsedUp("all places of the tower are used")
        need_message(message)
        places = self._tower.places(self._next)
        lowest = len(places) - 1
        data = u32(lowest)
        for level in range(lowest):
            form = self._tree(places[:level + 1]).public()
            data.extend(self._tree(places[:level]).sign(places[level], form) + form)
        data.extend(self._tree(places[:lowest]).sign(places[lowest], message))
        self._next += 1
        return data

    def skip(self, count):
        """Use the next places without signing."""
        need_within(count, 0, self.left(), "the number of places")
        self._next += count
