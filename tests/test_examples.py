"""The examples of the interface, and those of README.md."""

import doctest
import os
import unittest

EXAMPLES = """
>>> from sealgrove.octets import u16
>>> u16(258)
[1, 2]

>>> from sealgrove.suites import suite_named
>>> suite_named("small-3").name
'small-3'

>>> from sealgrove.coefficients import coefficient
>>> [coefficient([18, 52], k, 4) for k in range(4)]
[1, 2, 3, 4]

>>> from sealgrove.coefficients import OneTime
>>> from sealgrove.suites import suite_named
>>> OneTime(suite_named("small-1"), 4).digits([53])
[3, 5, 1, 6]
"""

README = os.path.join(os.path.dirname(os.path.dirname(os.path.abspath(__file__))), "README.md")


class Examples(unittest.TestCase):
    def check(self, text, name):
        test = doctest.DocTestParser().get_doctest(text, {}, name, None, 0)
        self.assertTrue(test.examples)
        told = []
        result = doctest.DocTestRunner(verbose=False).run(test, out=told.append)
        self.assertEqual(result.failed, 0, "".join(told))

    def test_the_interface(self):
        self.check(EXAMPLES, "interface")

    def test_the_readme(self):
        with open(README, encoding="ascii") as file:
            text = file.read()
        # The lines that fence the code in are no output of it.
        self.check(text.replace("```", ""), "README.md")
