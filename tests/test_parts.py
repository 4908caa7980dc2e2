"""The parts of stateless signatures (point 148)."""

import reference_stateless as known
from helpers import Case, shorter_and_longer, some_bytes
from sealgrove.errors import Malformed
from sealgrove.parts import joined_parts, parts_of
from sealgrove.schemes import Stateless, scheme_named
from sealgrove.suites import suite_named

SCHEMES = (("small-1", 4, 3, 3, 2, 2), ("small-2", 4, 1, 1, 1, 1), ("sha-3", 8, 2, 4, 3, 3), ("sha-16", 4, 6, 33, 3, 22))


def samples():
    for words in SCHEMES:
        yield words, Stateless(suite_named(words[0]), *words[1:])


class Parts(Case):
    def test_there_and_back(self):
        for _, scheme in samples():
            data = some_bytes(scheme.signature_size, 1)
            parts = self.pure(parts_of, scheme, data)
            self.assertIs(type(parts), tuple)
            randomizer, shown, hyper = parts
            self.assertEqual(len(randomizer), scheme.suite.size)
            self.assertEqual([(type(part), len(part[1])) for part in shown], [(tuple, scheme.a)] * scheme.k)
            self.assertEqual([(type(part), len(part[0]), len(part[1])) for part in hyper],
                             [(tuple, scheme.one_time.p, scheme.rise)] * scheme.layers)
            self.assertEqual(known.flat(parts), data)
            self.assertEqual(self.pure(joined_parts, scheme, parts), data)

    def test_parts_written_out(self):
        scheme = Stateless(suite_named("small-1"), 4, 2, 2, 1, 2)
        data = list(range(17))
        self.assertEqual(scheme.signature_size, 17)
        parts = ([0], [([1], [[2], [3]]), ([4], [[5], [6]])],
                 [([[7], [8], [9], [10]], [[11]]), ([[12], [13], [14], [15]], [[16]])])
        self.assertEqual(parts_of(scheme, data), parts)
        self.assertEqual(joined_parts(scheme, parts), data)

    def test_other_sizes(self):
        for _, scheme in samples():
            for data in shorter_and_longer(some_bytes(scheme.signature_size, 1)):
                self.raises(Malformed, parts_of, scheme, data)
            self.raises(Malformed, parts_of, scheme, [])
        self.raises(Malformed, parts_of, scheme_named("sha2-128f"), [0] * 7856)

    def test_what_does_not_have_the_form(self):
        for _, scheme in samples():
            n = scheme.suite.size
            randomizer, shown, hyper = parts_of(scheme, some_bytes(scheme.signature_size, 1))
            value, path = shown[0]
            values, way = hyper[-1]
            wrong = [(), (randomizer, shown), (randomizer, shown, hyper, []), [randomizer, shown, hyper], None,
                     (shown, randomizer, hyper), (randomizer, hyper, shown), (randomizer + [1], shown, hyper),
                     (randomizer[:-1], shown, hyper), (None, shown, hyper), ([256] * n, shown, hyper),
                     (randomizer, None, hyper), (randomizer, shown, None), (randomizer, shown[:-1], hyper),
                     (randomizer, shown + [shown[0]], hyper), (randomizer, shown, hyper[:-1]),
                     (randomizer, shown, hyper + [hyper[0]]), (randomizer, tuple(shown), hyper),
                     (randomizer, shown, tuple(hyper))]
            for part in ((value, path[:-1]), (value, path + [value]), (value + [1], path), [value, path], None,
                         (value, path[:-1] + [value + [1]])):
                wrong.append((randomizer, [part] + shown[1:], hyper))
            for part in ((values[:-1], way), (values + [values[0]], way), (values, way[:-1]), (values, way + [values[0]]),
                         [values, way], None, ([values[0] + [1]] + values[1:], way), (way, values)):
                wrong.append((randomizer, shown, hyper[:-1] + [part]))
            for parts in wrong:
                self.raises(Malformed, joined_parts, scheme, parts)
