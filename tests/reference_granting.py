"""Points 235 to 244 once more, by their words. Whether a signature is accepted, and its number, are asked of towers."""

from reference import num, number
from sealgrove.tower import number_in, verify_tower


def warrant_form(warrant):
    subject, first, last, low, high, depth, scope = warrant
    return ([87] + num(first, 4) + num(last, 4) + num(low, 8) + num(high, 8) + [depth, len(scope)]
            + list(scope) + list(subject))


def withdrawal_form(withdrawal):
    return [88] + num(withdrawal[1], 4) + warrant_form(withdrawal[0])


def keys(root, chain):
    return [list(root)] + [list(warrant[0]) for warrant, _ in chain]


def is_accepted(root, chain, i, text, signature):
    return verify_tower(keys(root, chain)[i], text, signature)


def counts(root, chain, i, text, signature):
    if not is_accepted(root, chain, i, text, signature):
        return False
    if i == 0:
        return True
    _, _, _, low, high, _, _ = chain[i - 1][0]
    return number_in(keys(root, chain)[i], signature) in range(low, high + 1)


def strikes(root, chain, i, withdrawal, signature):
    return withdrawal[0] == chain[i][0] and counts(root, chain, i, withdrawal_form(withdrawal), signature)


def faults(root, chain, message, signature, withdrawals, day):
    """All faults, in their order."""
    k, out = len(chain), []
    for i, (warrant, signed) in enumerate(chain):
        _, first, last, _, _, depth, scope = warrant
        if not is_accepted(root, chain, i, warrant_form(warrant), signed):
            out.append(("signature", i))
        if not counts(root, chain, i, warrant_form(warrant), signed):
            out.append(("place", i))
        if depth < k - 1 - i:
            out.append(("depth", i))
        if message[:len(scope)] != list(scope):
            out.append(("scope", i))
        if not first <= day <= last:
            out.append(("day", i))
        if any(strikes(root, chain, i, *one) and day >= one[0][1] for one in withdrawals):
            out.append(("withdrawn", i))
    if not is_accepted(root, chain, k, [77] + message, signature):
        out.append(("signature", k))
    if not counts(root, chain, k, [77] + message, signature):
        out.append(("place", k))
    return out


def right(root, chain, withdrawals):
    k = len(chain)
    if k == 0:
        return None
    for i, (warrant, signed) in enumerate(chain):
        if not counts(root, chain, i, warrant_form(warrant), signed) or warrant[5] < k - 1 - i:
            return None
    warrants = [warrant for warrant, _ in chain]
    lasts = [warrant[2] for warrant in warrants]
    lasts += [one[0][1] - 1 for one in withdrawals if any(strikes(root, chain, i, *one) for i in range(k))]
    scope = sorted([warrant[6] for warrant in warrants], key=len)[-1]
    first, last = max(warrant[1] for warrant in warrants), min(lasts)
    if first > last or any(scope[:len(warrant[6])] != warrant[6] for warrant in warrants):
        return None
    depth = min(warrant[5] - (k - 1 - i) for i, warrant in enumerate(warrants))
    return warrants[-1][0], first, last, warrants[-1][3], warrants[-1][4], depth, scope


def entry(text, signature):
    return num(len(text), 2) + text + signature


def text_of(data):
    """The text and the signature of an entry of a text, or None."""
    if len(data) < 2 or number(data[:2]) > min(2000, len(data) - 2):
        return None
    return data[2:2 + number(data[:2])], data[2 + number(data[:2]):]
