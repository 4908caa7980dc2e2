"""The judge: which papers are good."""

from sealgrove.batch import MOST_MESSAGES
from sealgrove.books import batch_book, onetime_book, shown_by, stateless_book, stateless_entry, tower_book, tree_book
from sealgrove.common import LAST_U64, has_size, joined
from sealgrove.errors import Malformed
from sealgrove.lmsforms import read_public
from sealgrove.octets import number_of, within
from sealgrove.onetime import read_once_key
from sealgrove.papers import is_byte_tuple, judge_clash, known_rows
from sealgrove.tower import read_tower_public

HEAD_SIZE = 5


def is_paper(paper, word):
    """Tell whether the value, which may be of any kind, is a tuple of this word and of one other thing."""
    return isinstance(paper, tuple) and len(paper) == 2 and paper[0] == word


def judge_opened(suite, root, entries, paper):
    """Tell whether the paper is a good opened list, for the root and the entries of a book."""
    if not is_paper(paper, "opened") or not is_byte_tuple(paper[1]):
        return False
    lists, digests = known_rows(suite, joined([entry[1] for entry in entries]))
    digest = tuple(suite.digest(list(paper[1])))
    return paper[1] not in lists and (digest == tuple(root) or digest in digests)


def is_place(value):
    """Tell whether the value, which may be of any kind, is a tuple like those of places."""
    if not isinstance(value, tuple):
        return False
    return all([is_byte_tuple(item) or within(item, 0, LAST_U64) for item in value])


def judge_twice(entries, paper):
    """Tell whether the entries of a book use the place of the paper for two different things."""
    # Python takes True for 1, and so the place is looked at before it is compared.
    if not is_paper(paper, "twice") or not is_place(paper[1]):
        return False
    found = [
        thing for _, _, places, things in entries
        for place, thing in zip(places, things) if place == paper[1]
    ]
    return any([thing != found[0] for thing in found])


def judge_covered(scheme, public, book, entries, pair, paper):
    """Tell whether the paper names, for each tree of the forest, an accepted pair that shows the leaf of the pair."""
    if not is_paper(paper, "covered") or not isinstance(paper[1], tuple) or len(paper[1]) != scheme.k:
        return False
    if stateless_entry(scheme, public, pair[0], pair[1]) is None:
        return False
    shown = {entry[0]: shown_by(scheme, public, book[entry[0]]) for entry in entries}
    return all([
        within(number, 0, len(book) - 1) and number in shown and leaf in shown[number]
        for number, leaf in zip(paper[1], shown_by(scheme, public, pair))
    ])


def judged(suite, root, entries, paper):
    """Tell whether the paper is good, in a way of signing that has no covered leaves."""
    return judge_opened(suite, root, entries, paper) or judge_twice(entries, paper)


def judge_onetime(public, book, paper):
    """Tell whether a paper about a book of a one-time key is good."""
    try:
        kind, _, _, root = read_once_key(public)
    except Malformed:
        return False
    return judge_clash(kind.suite, paper) or judged(kind.suite, root, onetime_book(public, book), paper)


def judge_tree(public, book, paper):
    """Tell whether a paper about a book of a tree key is good."""
    try:
        kind, _, root = read_public(public)
    except Malformed:
        return False
    return judge_clash(kind.suite, paper) or judged(kind.suite, root, tree_book(public, book), paper)


def judge_tower(public, book, paper):
    """Tell whether a paper about a book of a tower is good."""
    try:
        _, kind, _, root = read_tower_public(public)
    except Malformed:
        return False
    return judge_clash(kind.suite, paper) or judged(kind.suite, root, tower_book(public, book), paper)


def judge_stateless(scheme, public, book, message, signature, paper):
    """Tell whether a paper about a book of a stateless key, and about a signature of a message, is good."""
    if not has_size(public, scheme.public_size):
        return False
    if judge_clash(scheme.suite, paper):
        return True
    entries = stateless_book(scheme, public, book)
    if judged(scheme.suite, public[scheme.suite.size:], entries, paper):
        return True
    return judge_covered(scheme, public, book, entries, (message, signature), paper)


def is_head(suite, head):
    """Tell whether a byte list is the head text of some batch."""
    if not has_size(head, HEAD_SIZE + suite.size) or head[0] != 3:
        return False
    return within(number_of(head[1:HEAD_SIZE]), 1, MOST_MESSAGES)


def judge_batch(suite, head, book, paper):
    """Tell whether a paper about a book of a batch is good."""
    if not is_head(suite, head):
        return False
    return judge_clash(suite, paper) or judge_opened(suite, head[HEAD_SIZE:], batch_book(suite, head, book), paper)
