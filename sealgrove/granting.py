"""Chains of warrants: what they carry, on which days, and the withdrawals in a log."""

from sealgrove.common import LAST_U32
from sealgrove.errors import Malformed, OutOfRange
from sealgrove.octets import number_of, u16
from sealgrove.tower import number_in, verify_tower
from sealgrove.warrants import (
    is_warrant, is_withdrawal, message_text, need_text_message, read_withdrawal, write_warrant, write_withdrawal,
)

MOST_LINKS = 8
LONGEST_ENTRY_TEXT = 2000


def need_chain(chain, withdrawals):
    """Refuse warrants and withdrawals that are none, and then a chain that is too long."""
    for warrant, _ in chain:
        if not is_warrant(warrant):
            raise Malformed("a link has no warrant")
    for withdrawal, _ in withdrawals:
        if not is_withdrawal(withdrawal):
            raise Malformed("a withdrawal is none")
    if len(chain) > MOST_LINKS:
        raise OutOfRange("the chain has more than 8 links")


def key_of(root, chain, index):
    """Return the form of the key of the link with this index, or of the message behind the last link."""
    return list(root) if index == 0 else list(chain[index - 1][0][0])


def signed_fault(root, chain, index, text, signature):
    """Return `signature` or `place`, if the signature of a text by the key with this index does not count."""
    public = key_of(root, chain, index)
    if not verify_tower(public, text, signature):
        return "signature"
    if index > 0:
        _, _, _, low, high, _, _ = chain[index - 1][0]
        if not low <= number_in(public, signature) <= high:
            return "place"
    return None


def lasting_fault(root, chain, index):
    """Return the fault that a link has whatever the message and the day are, or None."""
    warrant, signature = chain[index]
    word = signed_fault(root, chain, index, write_warrant(warrant), signature)
    if word is None and warrant[5] < len(chain) - 1 - index:
        return "depth"
    return word


def striking_days(root, chain, index, withdrawals):
    """Return the days of the withdrawals that strike a link."""
    return [
        withdrawal[1] for withdrawal, signature in withdrawals
        if withdrawal[0] == chain[index][0]
        and signed_fault(root, chain, index, write_withdrawal(withdrawal), signature) is None
    ]


def begins_with(message, scope):
    """Tell whether a message begins with a scope."""
    return tuple(message[:len(scope)]) == tuple(scope)


def link_fault(root, chain, index, message, withdrawals, day):
    """Return the first fault of a link, or None."""
    word = lasting_fault(root, chain, index)
    if word is not None:
        return word
    _, first, last, _, _, _, scope = chain[index][0]
    if not begins_with(message, scope):
        return "scope"
    if not first <= day <= last:
        return "day"
    if any([day >= struck for struck in striking_days(root, chain, index, withdrawals)]):
        return "withdrawn"
    return None


def fault(root, chain, message, signature, withdrawals, day):
    """Return the first fault, or None if the chain carries the message."""
    need_chain(chain, withdrawals)
    need_text_message(message)
    for index in range(len(chain)):
        word = link_fault(root, chain, index, message, withdrawals, day)
        if word is not None:
            return word, index
    word = signed_fault(root, chain, len(chain), message_text(message), signature)
    return None if word is None else (word, len(chain))


def carries(root, chain, message, signature, withdrawals, day):
    """Tell whether the chain carries the message on a day."""
    return fault(root, chain, message, signature, withdrawals, day) is None


def right_of(root, chain, withdrawals):
    """Return what the chain lets its last subject do, or None."""
    need_chain(chain, withdrawals)
    links = range(len(chain))
    if not chain or any([lasting_fault(root, chain, index) is not None for index in links]):
        return None
    warrants = [warrant for warrant, _ in chain]
    subject, _, _, low, high, _, _ = warrants[-1]
    struck = [day for index in links for day in striking_days(root, chain, index, withdrawals)]
    first = max([warrant[1] for warrant in warrants])
    last = min([warrant[2] for warrant in warrants] + [day - 1 for day in struck])
    depth = min([warrants[index][5] - (len(chain) - 1 - index) for index in links])
    scope = max([warrant[6] for warrant in warrants], key=len)
    if first > last or not all([begins_with(scope, warrant[6]) for warrant in warrants]):
        return None
    return subject, first, last, low, high, depth, scope


def days_of(root, chain, message, signature, withdrawals):
    """Return the first and the last day on which the chain carries the message, or None."""
    need_chain(chain, withdrawals)
    need_text_message(message)
    first, last, scope = 0, LAST_U32, ()
    if chain:
        right = right_of(root, chain, withdrawals)
        if right is None:
            return None
        _, first, last, _, _, _, scope = right
    if not begins_with(message, scope):
        return None
    if signed_fault(root, chain, len(chain), message_text(message), signature) is not None:
        return None
    return first, last


def pairs_of(root, chain, message, signature):
    """Return the public key, the text and the signature of each link and of the message."""
    need_chain(chain, [])
    texts = [write_warrant(warrant) for warrant, _ in chain] + [message_text(message)]
    signatures = [part for _, part in chain] + [signature]
    return [
        (key_of(root, chain, index), text, list(signatures[index]))
        for index, text in enumerate(texts)
    ]


def entry_of(text, signature):
    """Return the entry of a text, whatever its length is."""
    return u16(len(text)) + text + signature


def text_entry(text, signature):
    """Return the entry of a text."""
    if len(text) > LONGEST_ENTRY_TEXT:
        raise OutOfRange("the text has more than 2000 bytes")
    return entry_of(text, signature)


def withdrawals_in(entries):
    """Return the withdrawals whose forms are texts of the entries, with their signatures."""
    found = []
    for entry in entries:
        behind = 2 + number_of(entry[:2])
        if len(entry) < behind:
            continue
        try:
            found.append((read_withdrawal(entry[2:behind]), entry[behind:]))
        except Malformed:
            # Other entries may stand in the log, too.
            continue
    return found
