"""The accuser: what an accepted signature that was not made tells."""

from sealgrove.books import (
    batch_book, batch_entry, onetime_book, onetime_entry, place_used_twice, shown_by, stateless_book,
    stateless_entry, tower_book, tower_entry, tree_book, tree_entry,
)
from sealgrove.common import joined
from sealgrove.errors import Refused
from sealgrove.lmsforms import read_public
from sealgrove.onetime import read_once_key
from sealgrove.papers import clash_in, known_rows
from sealgrove.tower import read_tower_public


def rows_of_stranger(told, book, message, signature):
    """Return the rows of an accepted pair that does not stand in the book; refuse every other one."""
    if told is None:
        raise Refused("the signature is not accepted")
    if (message, signature) in book:
        raise Refused("the pair stands in the book")
    return told[0]


def paper_of(suite, entries, rows):
    """Return the paper that rows tell to whoever has the entries of a book, or None if all their lists are known."""
    lists, _ = known_rows(suite, joined([entry[1] for entry in entries]))
    clash = clash_in(lists)
    if clash is not None:
        return clash
    place = place_used_twice(entries)
    if place is not None:
        return "twice", place
    # Without a clash, each digest is that of one known list.
    known = {digest: data for data, digest in lists.items()}
    for data, _, _ in rows:
        if data not in lists:
            digest = tuple(suite.digest(list(data)))
            return ("clash", known[digest], data) if digest in known else ("opened", data)
    return None


def accuse_onetime(public, book, message, signature):
    """Return the paper about a signature of a one-time key."""
    rows = rows_of_stranger(onetime_entry(public, message, signature), book, message, signature)
    return paper_of(read_once_key(public)[0].suite, onetime_book(public, book), rows)


def accuse_tree(public, book, message, signature):
    """Return the paper about a signature of a tree key."""
    rows = rows_of_stranger(tree_entry(public, message, signature), book, message, signature)
    return paper_of(read_public(public)[0].suite, tree_book(public, book), rows)


def accuse_tower(public, book, message, signature):
    """Return the paper about a signature of a tower."""
    rows = rows_of_stranger(tower_entry(public, message, signature), book, message, signature)
    return paper_of(read_tower_public(public)[1].suite, tower_book(public, book), rows)


def accuse_batch(suite, head, book, message, opening):
    """Return the paper about an opening of a message."""
    rows = rows_of_stranger(batch_entry(suite, head, message, opening), book, message, opening)
    return paper_of(suite, batch_book(suite, head, book), rows)


def accuse_stateless(scheme, public, book, message, signature):
    """Return the paper about a signature of a stateless key."""
    rows = rows_of_stranger(stateless_entry(scheme, public, message, signature), book, message, signature)
    entries = stateless_book(scheme, public, book)
    found = paper_of(scheme.suite, entries, rows)
    if found is not None:
        return found
    shown = [(entry[0], shown_by(scheme, public, book[entry[0]])) for entry in entries]
    # All lists are known, those of the leaves, too: so each leaf is shown by some pair.
    return "covered", tuple([
        [index for index, leaves in shown if leaf in leaves][0]
        for leaf in shown_by(scheme, public, (message, signature))
    ])
