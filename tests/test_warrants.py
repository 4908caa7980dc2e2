"""Points 232 to 234: warrants, withdrawals, and texts."""

import random

import reference
from helpers import Case, some_bytes
from sealgrove.errors import Malformed, OutOfRange
from sealgrove.warrants import (
    is_warrant, message_text, read_warrant, read_withdrawal, write_warrant, write_withdrawal,
)

DAY = 2 ** 32 - 1
LAST = 2 ** 64 - 1
PLAIN = ((1, 2, 3), 5, 9, 10, 20, 3, (104, 105))


def near(at, value):
    return PLAIN[:at] + (value,) + PLAIN[at + 1:]


def bounds():
    """Warrants with each part at its bounds."""
    out = [PLAIN, ((), 0, 0, 0, 0, 0, ()), (tuple(some_bytes(1000)), DAY, DAY, LAST, LAST, 7, tuple(some_bytes(64)))]
    out += [near(0, ()), near(0, (255,) * 1000), near(1, 0), near(1, 9), near(2, 5), near(2, DAY), near(3, 0), near(3, 20)]
    out += [near(4, 10), near(4, LAST), near(5, 0), near(5, 7), near(6, ()), near(6, (0,) * 64)]
    return out


def beyond():
    """Values near a warrant that are none."""
    out = [near(0, (255,) * 1001), near(1, -1), near(1, 10), near(2, 4), near(2, DAY + 1), near(3, -1), near(3, 21),
           near(4, 9), near(4, LAST + 1), near(5, -1), near(5, 8), near(6, (0,) * 65), near(1, 10 ** 5000),
           near(4, 10 ** 5000), near(2, -10 ** 5000), near(5, 10 ** 5000)]
    for at in (0, 6):
        out += [near(at, value) for value in ([1], (256,), (-1,), (True,), (1.0,), (None,), ("a",), ((1,),), "ab", b"ab",
                                              None, 5, {}, ())[:-1]]
    for at in range(1, 6):
        out += [near(at, value) for value in (True, False, None, 5.0, "5", (5,), [5])]
    out += [(), PLAIN[:-1], PLAIN + (0,), list(PLAIN), None, 7, "warrant", {}, (PLAIN,), (PLAIN, 5), 10 ** 5000]
    return out


def written(warrant):
    subject, first, last, low, high, depth, scope = warrant
    num = reference.num
    return ([87] + num(first, 4) + num(last, 4) + num(low, 8) + num(high, 8) + [depth, len(scope)]
            + list(scope) + list(subject))


class Warrants(Case):
    def test_what_is_a_warrant(self):
        for warrant in bounds():
            self.assertIs(self.pure(is_warrant, warrant), True)
        for value in beyond():
            self.assertIs(is_warrant(value), False, value)

    def test_forms(self):
        for warrant in bounds():
            form = self.pure(write_warrant, warrant)
            self.assertEqual(form, written(warrant))
            found = self.pure(read_warrant, form)
            self.assertEqual(found, warrant)
            self.assertTrue(type(found) is tuple and type(found[0]) is tuple and type(found[6]) is tuple)
            for day in (0, 7, DAY):
                form = self.pure(write_withdrawal, (warrant, day))
                self.assertEqual(form, [88] + reference.num(day, 4) + written(warrant))
                self.assertEqual(self.pure(read_withdrawal, form), (warrant, day))

    def test_drawn_warrants(self):
        source = random.Random(233)
        forms = set()
        for _ in range(300):
            first, last = sorted(source.randrange(source.choice((3, DAY + 1))) for _ in range(2))
            low, high = sorted(source.randrange(source.choice((3, LAST + 1))) for _ in range(2))
            warrant = (tuple(some_bytes(source.randrange(90), source.random())), first, last, low, high,
                       source.randrange(8), tuple(some_bytes(source.randrange(65), source.random())))
            self.assertEqual(read_warrant(write_warrant(warrant)), warrant)
            forms.add(tuple(write_warrant(warrant)))
        self.assertEqual(len(forms), 300)

    def test_what_is_none(self):
        for value in beyond():
            self.raises(Malformed, write_warrant, value)
            self.raises(Malformed, write_withdrawal, (value, 5))
        for day in (-1, DAY + 1, True, None, 5.0, "5", 10 ** 5000):
            self.raises(Malformed, write_withdrawal, (PLAIN, day))
        for value in ((PLAIN,), (PLAIN, 5, 5), [PLAIN, 5], (5, PLAIN), None, PLAIN, ()):
            self.raises(Malformed, write_withdrawal, value)

    def test_lists_that_are_no_forms(self):
        """A list that is read is the form of what was read; every other one is refused."""
        for warrant in bounds()[:3] + [near(0, ()), near(6, ())]:
            for read, write, form in ((read_warrant, write_warrant, write_warrant(warrant)),
                                      (read_withdrawal, write_withdrawal, write_withdrawal((warrant, 7)))):
                others = [form[:at] + form[at + 1:] for at in range(0, len(form), 5)] + [form[:at] for at in range(40)]
                others += [form[:at] + [byte] + form[at:] for at in range(0, 40, 3) for byte in (0, 255)]
                others += [form + [7], [0] + form, form[1:], [], [87], [88], form + form]
                others += [form[:at] + [byte] + form[at + 1:] for at in range(33) for byte in (0, 1, 8, 65, 87, 88, 255)
                           if at < len(form)]
                for data in others:
                    try:
                        found = read(data)
                    except Malformed:
                        continue
                    self.assertEqual(write(found), data)
                for data in (None, "ab", tuple(form), [256] + form[1:], form[:-1] + [256], form[:-1] + [True], 7):
                    self.raises(Malformed, read, data)

    def test_the_rules_of_forms(self):
        good = written(PLAIN)
        for at, value in ((0, 86), (0, 88), (0, 77), (25, 8), (25, 255), (26, 65), (26, 6), (26, 255), (1, 255), (9, 255)):
            self.raises(Malformed, read_warrant, good[:at] + [value] + good[at + 1:])
        self.raises(Malformed, read_warrant, written(PLAIN[:1] + (9, 8) + PLAIN[3:]))
        self.raises(Malformed, read_warrant, written(near(3, 21)))
        self.raises(Malformed, read_warrant, written(near(0, (1,) * 1001)))
        self.raises(Malformed, read_warrant, written(near(6, (1,) * 65)))
        self.raises(Malformed, read_warrant, good[:26])
        self.raises(Malformed, read_warrant, good[:28])
        self.raises(Malformed, read_withdrawal, good)
        self.raises(Malformed, read_warrant, [88, 0, 0, 0, 0] + good)
        self.raises(Malformed, read_withdrawal, [88, 0, 0, 0] + good)
        # Another length of the scope moves the bytes of the subject into it.
        self.assertEqual(read_warrant(good[:26] + [5] + good[27:]), ((), 5, 9, 10, 20, 3, (104, 105, 1, 2, 3)))


class Texts(Case):
    def test_messages(self):
        for count in (0, 1, 65534, 65535):
            message = some_bytes(count)
            self.assertEqual(self.pure(message_text, message), [77] + message)
        for count in (65536, 65537, 70000):
            self.raises(OutOfRange, message_text, [0] * count)
