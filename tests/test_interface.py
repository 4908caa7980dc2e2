"""The interface: each name stands in its file, with the arguments that the document writes."""

import importlib
import inspect
import unittest

FUNCTIONS = {
    "octets": ["big(number, size)", "u8(number)", "u16(number)", "u32(number)", "number_of(data)", "is_bytes(value)"],
    "sha": ["round_constants()", "start_words()", "compress(words, block)", "sha256(data)"],
    "small": ["small_core(data)"],
    "suites": ["suite_named(name)"],
    "coefficients": ["coefficient(data, index, width)", "one_time_of(code)", "lower(one, other)"],
}

CLASSES = {
    "errors": {
        "SealError": [], "OutOfRange": [], "Malformed": [], "Refused": [], "UsedUp": [], "PowerLost": [],
        "NotThere": [], "BadLine": ["__init__(self, line)"],
    },
    "suites": {
        "Suite": ["__init__(self, core, size)", "whole(self, data)", "digest(self, data)", "mac(self, key, data)",
                  "stretch(self, data, count)"],
    },
    "coefficients": {
        "OneTime": ["__init__(self, suite, width)", "check_sum(self, digest)", "digits(self, digest)"],
    },
}


def written(function):
    return function.__name__ + str(inspect.signature(function))


class Interface(unittest.TestCase):
    def test_functions(self):
        for name, lines in FUNCTIONS.items():
            module = importlib.import_module("sealgrove." + name)
            for line in lines:
                with self.subTest(module=name, line=line):
                    function = vars(module)[line.partition("(")[0]]
                    self.assertTrue(inspect.isfunction(function))
                    self.assertEqual(function.__module__, module.__name__)
                    self.assertEqual(written(function), line)

    def test_classes(self):
        for name, classes in CLASSES.items():
            module = importlib.import_module("sealgrove." + name)
            for word, lines in classes.items():
                found = vars(module)[word]
                self.assertTrue(inspect.isclass(found))
                self.assertEqual(found.__module__, module.__name__)
                for line in lines:
                    with self.subTest(module=name, word=word, line=line):
                        # vars and not getattr: the method must stand in the class itself.
                        self.assertEqual(written(vars(found)[line.partition("(")[0]]), line)
