"""Books: which pairs are accepted, what their rows are, and for what they use which places."""

from sealgrove.batch import batch_rows, opened_head
from sealgrove.common import LONGEST_MESSAGE, has_size
from sealgrove.errors import Malformed, OutOfRange
from sealgrove.lmsforms import lms_rows, read_public, read_tree, write_public
from sealgrove.onetime import lmots_rows, read_once, read_once_key
from sealgrove.stateless import shown_leaves, stateless_rows, things_of
from sealgrove.tower import level_steps, read_tower, tower_rows


def once_use(identifier, q, message, signature):
    """Return the place of a one-time signature, and the thing for which it is used."""
    randomizer, values = signature
    fixed = tuple(randomizer), tuple([tuple(value) for value in values])
    return (tuple(identifier), q), (tuple(message), fixed)


def onetime_entry(public, message, signature):
    """Return the rows, places and things of a pair, or None if it is not accepted."""
    # No message is longer, so that no signature of such a list is accepted.
    rows = lmots_rows(public, message, signature) if len(message) <= LONGEST_MESSAGE else None
    if rows is None:
        return None
    kind, identifier, q, _ = read_once_key(public)
    place, thing = once_use(identifier, q, message, read_once(kind, signature))
    return rows, [place], [thing]


def tree_entry(public, message, signature):
    """Return the rows, places and things of a pair, or None if it is not accepted."""
    rows = lms_rows(public, message, signature) if len(message) <= LONGEST_MESSAGE else None
    if rows is None:
        return None
    kind, identifier, _ = read_public(public)
    q, once, _ = read_tree(kind, signature)
    place, thing = once_use(identifier, q, message, once)
    return rows, [place], [thing]


def tower_entry(public, message, signature):
    """Return the rows, places and things of a pair, or None if it is not accepted."""
    rows = tower_rows(public, message, signature) if len(message) <= LONGEST_MESSAGE else None
    if rows is None:
        return None
    places = []
    things = []
    above = ()
    for kind, identifier, root, text, (q, once, _) in level_steps(public, message, read_tower(public, signature)):
        place, thing = once_use(identifier, q, text, once)
        places.extend([(tuple(identifier),), place])
        things.extend([(tuple(write_public(kind, identifier, root)), above), thing])
        above = above + (q,)
    return rows, places, things


def stateless_entry(scheme, public, message, signature):
    """Return the rows, places and things of a pair, or None if it is not accepted."""
    if not has_size(public, scheme.public_size):
        return None
    rows = stateless_rows(scheme, public, message, signature)
    if rows is None:
        return None
    uses = things_of(scheme, public, message, signature)
    return rows, [place for place, _ in uses], [data for _, data in uses]


def shown_by(scheme, public, pair):
    """Return the leaves that a pair shows, one for each tree of its forest, as tuples (tree, leaf, pick)."""
    message, signature = pair
    tree, leaf, picked = shown_leaves(scheme, public, message, signature)
    return [(tree, leaf, pick) for pick in picked]


def batch_entry(suite, head, message, opening):
    """Return the rows of a message and its opening, or None if they are not accepted; a batch has no places."""
    if not isinstance(opening, tuple) or len(opening) != 3 or not isinstance(opening[2], list):
        return None
    try:
        if opened_head(suite, message, opening) != head:
            return None
    except OutOfRange:
        return None
    except Malformed:
        return None
    return batch_rows(suite, message, opening), [], []


def entries_of(entry, book):
    """Return the accepted pairs of a book, for a function that returns what an accepted pair has."""
    found = []
    for index, (message, signature) in enumerate(book):
        told = entry(message, signature)
        if told is not None:
            rows, places, things = told
            found.append((index, rows, places, things))
    return found


def onetime_book(public, book):
    """Return the accepted pairs of a book of a one-time key."""
    return entries_of(lambda message, signature: onetime_entry(public, message, signature), book)


def tree_book(public, book):
    """Return the accepted pairs of a book of a tree key."""
    return entries_of(lambda message, signature: tree_entry(public, message, signature), book)


def tower_book(public, book):
    """Return the accepted pairs of a book of a tower."""
    return entries_of(lambda message, signature: tower_entry(public, message, signature), book)


def stateless_book(scheme, public, book):
    """Return the accepted pairs of a book of a stateless key."""
    return entries_of(lambda message, signature: stateless_entry(scheme, public, message, signature), book)


def batch_book(suite, head, book):
    """Return the accepted pairs of a book of a batch."""
    return entries_of(lambda message, opening: batch_entry(suite, head, message, opening), book)


def place_used_twice(entries):
    """Return the first place that is used for another thing than before, or None."""
    uses = {}
    for _, _, places, things in entries:
        for place, thing in zip(places, things):
            if uses.setdefault(place, thing) != thing:
                return place
    return None


def is_plain(entries):
    """Tell whether no place is used for two different things."""
    return place_used_twice(entries) is None
