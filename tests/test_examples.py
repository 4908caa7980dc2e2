"""The examples of the interface, and those of README.md."""

import doctest
import os
import unittest

EXAMPLES = """
>>> from sealgrove.octets import u16
>>> u16(258)
[1, 2]

>>> from sealgrove.suites import suite_named
>>> suite_named("small-3").name
'small-3'

>>> from sealgrove.coefficients import coefficient
>>> [coefficient([18, 52], k, 4) for k in range(4)]
[1, 2, 3, 4]

>>> from sealgrove.coefficients import OneTime
>>> from sealgrove.suites import suite_named
>>> OneTime(suite_named("small-1"), 4).digits([53])
[3, 5, 1, 6]

>>> from sealgrove.suites import suite_named
>>> from sealgrove.tree import tree_levels
>>> tree_levels(suite_named("small-2"), [[7, 8]], lambda level, index, left, right: left + right)
[[[7, 8]]]

>>> from sealgrove.suites import suite_named
>>> from sealgrove.tree import climb
>>> climb(suite_named("small-2"), lambda level, index, left, right: left + right, 0, [7, 8], [])
[7, 8]

>>> from sealgrove.joint import joint_places
>>> joint_places(3, [0, 3, 4])
[(0, 1), (0, 2), (0, 5), (1, 3)]

>>> from sealgrove.joint import joint_places
>>> joint_places(2, [0, 1, 2, 3])
[]

>>> from sealgrove.batch import item_text
>>> item_text(2, 1, [9])
[0, 0, 0, 0, 2, 0, 0, 0, 1, 9]

>>> from sealgrove.batch import batch_height
>>> [batch_height(count) for count in (1, 2, 3, 4, 5)]
[0, 1, 2, 2, 3]

>>> from sealgrove.suites import suite_named
>>> from sealgrove.batchforms import batch_of
>>> batch_of(suite_named("small-2"), [0, 0, 0, 1, 0, 0, 0, 0, 5])
((1, 0, []), [5])

>>> from sealgrove.suites import suite_named
>>> from sealgrove.batchforms import batch_bytes
>>> batch_bytes(suite_named("small-1"), (2, 1, [[77]]), [5])
[0, 0, 0, 2, 0, 0, 0, 1, 77, 5]

>>> from sealgrove.kept import shape
>>> shape(3, 0, "even")
[[0], [0, 0], [0, 0]]

>>> from sealgrove.kept import shape
>>> shape(3, 0, "lowest")
[[0], [1], [0]]

>>> from sealgrove.kept import KeptPath
>>> from sealgrove.suites import suite_named
>>> kept = KeptPath(suite_named("small-1"), 1, lambda q: [q], lambda z, i, left, right: left + right)
>>> kept.advance()
(0, 0)
>>> kept.path()
[[0]]

>>> from sealgrove.schemes import scheme_named
>>> scheme_named("sha2-128s").signature_size
7856

>>> from sealgrove.schemes import Stateless
>>> from sealgrove.suites import suite_named
>>> Stateless(suite_named("small-1"), 4, 3, 3, 2, 2).digest_size
4

>>> from sealgrove.address import short_form
>>> short_form((1, 2, 3, 4, 5, 258))
[1, 0, 0, 0, 0, 0, 0, 0, 2, 3, 0, 0, 0, 4, 0, 0, 0, 5, 0, 0, 1, 2]

>>> from sealgrove.address import address_of
>>> address_of([0] * 21 + [9])
(0, 0, 0, 0, 0, 9)

>>> from sealgrove.hashes import bit_digits
>>> bit_digits([18, 52], 3, 5)
[0, 4, 4, 3, 2]

>>> from sealgrove.hashes import bit_digits
>>> bit_digits([255, 1], 16, 1)
[65281]

>>> from sealgrove.forest import picks
>>> from sealgrove.schemes import Stateless
>>> from sealgrove.suites import suite_named
>>> picks(Stateless(suite_named("small-1"), 4, 3, 3, 2, 2), [18, 52])
[0, 12, 20]

>>> from sealgrove.frames import pure_frame
>>> pure_frame([7], [1, 2])
[0, 1, 7, 1, 2]

>>> from sealgrove.frames import frame_parts
>>> frame_parts([0, 0])
('pure', [], [])

>>> from sealgrove.disk import Disk
>>> from sealgrove.keeper import Keeper
>>> disk = Disk(64)
>>> keeper = Keeper(disk, lambda place, message: message, 100, 4)
>>> keeper.sign([7])
(0, [7])
>>> disk.crash([])
>>> Keeper(disk, lambda place, message: message, 100, 4).next_place()
4

>>> from sealgrove.heads import accepts_consistency
>>> from sealgrove.logbook import Logbook
>>> from sealgrove.suites import suite_named
>>> log = Logbook(suite_named("small-2"))
>>> [log.append([k]) for k in range(5)]
[0, 1, 2, 3, 4]
>>> accepts_consistency(suite_named("small-2"), log.head(3), log.head(), log.consistency(3))
True
>>> len(log.inclusion(4)), len(log.inclusion(0)), log.consistency(0)
(1, 3, [])

>>> from sealgrove.scenario import read_scenario
>>> read_scenario("sign 6869\\noffer 0 68 3=ff 5=00")
[('sign', (104, 105)), ('offer', 0, (104,), ((3, 255), (5, 0)))]

>>> from sealgrove.scenario import report
>>> report([("signed", 0), ("head", 1, (10, 255))])
'signed 0\\nhead 1 0aff\\n'
"""

README = os.path.join(os.path.dirname(os.path.dirname(os.path.abspath(__file__))), "README.md")


class Examples(unittest.TestCase):
    def check(self, text, name):
        test = doctest.DocTestParser().get_doctest(text, {}, name, None, 0)
        self.assertTrue(test.examples)
        told = []
        result = doctest.DocTestRunner(verbose=False).run(test, out=told.append)
        self.assertEqual(result.failed, 0, "".join(told))

    def test_the_interface(self):
        self.check(EXAMPLES, "interface")

    def test_the_readme(self):
        with open(README, encoding="ascii") as file:
            text = file.read()
        # The lines that fence the code in are no output of it.
        self.check(text.replace("```", ""), "README.md")
