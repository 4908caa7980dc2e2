"""Points 151 to 153: frames, and signing with a context."""

import reference
import reference_stateless as known
from helpers import Case, changed, some_bytes
from sealgrove.errors import Malformed, OutOfRange
from sealgrove.frames import accepts_framed, digested_frame, frame_parts, pure_frame, sign_framed
from sealgrove.schemes import Stateless
from sealgrove.stateless import accepts_raw, public_of, sign_raw, stateless_key
from sealgrove.suites import suite_named

MARK = [6, 9, 96, 134, 72, 1, 101, 3, 4, 2, 1]
CONTEXTS = ([], [7], list(range(100)), [5] * 254, [255] * 255)
LONG = ([5] * 256, [5] * 257, [0] * 1000)
MESSAGES = ([], [0], [1, 2, 3], some_bytes(300))
NAMES = ("small-1", "sha-16", "sha-32")


class Frames(Case):
    def test_pure_frames_there_and_back(self):
        for context in CONTEXTS:
            for message in MESSAGES:
                frame = self.pure(pure_frame, context, message)
                self.assertEqual(frame, [0, len(context)] + context + message)
                self.assertEqual(self.pure(frame_parts, frame), ("pure", context, message))
                self.assertIs(type(frame_parts(frame)), tuple)

    def test_digested_frames_there_and_back(self):
        for name in NAMES:
            suite = suite_named(name)
            for context in CONTEXTS:
                for message in MESSAGES:
                    frame = self.pure(digested_frame, suite, context, message)
                    whole = reference.whole(name, message)
                    self.assertEqual(frame, [1, len(context)] + context + MARK + whole)
                    self.assertEqual(self.pure(frame_parts, frame), ("digested", context, whole))

    def test_long_contexts(self):
        for context in LONG:
            for message in MESSAGES:
                self.raises(OutOfRange, pure_frame, context, message)
                self.raises(OutOfRange, digested_frame, suite_named("small-1"), context, message)

    def test_lists_that_are_cut(self):
        for context in CONTEXTS:
            frame = pure_frame(context, [])
            for at in range(len(frame)):
                self.raises(Malformed, frame_parts, frame[:at])
            frame = digested_frame(suite_named("small-1"), context, [1])
            for at in range(len(frame)):
                self.raises(Malformed, frame_parts, frame[:at])
            for more in ([0], [0] * 32, frame):
                self.raises(Malformed, frame_parts, frame + more)

    def test_changed_bytes(self):
        for context in CONTEXTS[:3]:
            frame = digested_frame(suite_named("small-1"), context, [1])
            for at in range(len(frame)):
                for by in (1, 2, 128, 254, 255):
                    data = changed(frame, at, by)
                    mark = 2 + len(context)
                    if at == 0 and data[0] == 0:
                        self.assertEqual(frame_parts(data), ("pure", context, data[mark:]))
                    elif at < 2 or mark <= at < mark + 11:
                        self.raises(Malformed, frame_parts, data)
                    else:
                        self.assertEqual(frame_parts(data), ("digested", data[2:mark], data[mark + 11:]))
        for way in range(2, 256):
            self.raises(Malformed, frame_parts, [way, 0] + MARK + [7] * 32)
            self.raises(Malformed, frame_parts, [way, 0])
        for count in range(256):
            frame = [0, count] + [9] * 100
            if count <= 100:
                self.assertEqual(frame_parts(frame), ("pure", [9] * count, [9] * (100 - count)))
            else:
                self.raises(Malformed, frame_parts, frame)

    def test_frames_are_equal_for_equal_parts_alone(self):
        found = {}
        for context in CONTEXTS:
            for message in MESSAGES:
                for way, frame in (("pure", pure_frame(context, message)),
                                   ("digested", digested_frame(suite_named("sha-1"), context, message))):
                    self.assertNotIn(tuple(frame), found)
                    found[tuple(frame)] = way
                    self.assertEqual(frame_parts(frame)[0], way)


class Signing(Case):
    def setUp(self):
        self.scheme = Stateless(suite_named("small-3"), 4, 2, 2, 1, 2)
        self.key = stateless_key(self.scheme, [1, 2, 3], [4, 5, 6], [7, 8, 9])
        self.public = public_of(self.scheme, self.key)

    def test_the_frame_is_signed(self):
        for context in CONTEXTS[:3] + CONTEXTS[-1:]:
            for message in MESSAGES:
                for digested in (False, True):
                    for extra in (None, [3, 3, 3]):
                        frame = pure_frame(context, message)
                        if digested:
                            frame = digested_frame(self.scheme.suite, context, message)
                        signature = self.pure(sign_framed, self.scheme, self.key, message, context=context,
                                              digested=digested, extra=extra)
                        self.assertEqual(signature, sign_raw(self.scheme, self.key, frame, extra))
                        self.assertIs(accepts_raw(self.scheme, self.public, frame, signature), True)
                        self.assertIs(self.pure(accepts_framed, self.scheme, self.public, message, signature,
                                                context=context, digested=digested), True)

    def test_the_defaults(self):
        signature = sign_framed(self.scheme, self.key, [1], context=[2])
        words = ("small-3", 4, 2, 2, 1, 2)
        self.assertEqual(signature, known.flat(known.sign_parts(words, self.key, [0, 1, 2, 1])))
        self.assertIs(accepts_framed(self.scheme, self.public, [1], signature, context=[2]), True)
        with self.assertRaises(TypeError):
            sign_framed(self.scheme, self.key, [1])
        with self.assertRaises(TypeError):
            accepts_framed(self.scheme, self.public, [1], signature)

    def test_another_context_way_or_message(self):
        for digested in (False, True):
            signature = sign_framed(self.scheme, self.key, [1, 2], context=[7], digested=digested)
            for message, context, way in (([1, 2], [7], not digested), ([1, 2], [], digested), ([1, 2], [8], digested),
                                          ([1, 2], [7, 7], digested), ([1], [7], digested), ([2], [7, 1], digested)):
                self.assertIs(accepts_framed(self.scheme, self.public, message, signature, context=context, digested=way),
                              False)
            for at in (0, len(signature) // 2, len(signature) - 1):
                self.assertIs(accepts_framed(self.scheme, self.public, [1, 2], changed(signature, at), context=[7],
                                             digested=digested), False)
            self.assertIs(accepts_framed(self.scheme, self.public, [1, 2], signature[:-1], context=[7],
                                         digested=digested), False)

    def test_the_order_of_the_errors(self):
        for digested in (False, True):
            for context in LONG:
                for key in (self.key, [], self.public):
                    for extra in (None, []):
                        self.raises(OutOfRange, sign_framed, self.scheme, key, [1], context=context, digested=digested,
                                    extra=extra)
                for public in (self.public, [], self.key):
                    self.raises(OutOfRange, accepts_framed, self.scheme, public, [1], [], context=context,
                                digested=digested)
            for extra in (None, [], [1, 2, 3]):
                self.raises(Malformed, sign_framed, self.scheme, self.public, [1], context=[], digested=digested,
                            extra=extra)
            for extra in ([], [1] * 4):
                self.raises(OutOfRange, sign_framed, self.scheme, self.key, [1], context=[], digested=digested,
                            extra=extra)
            self.raises(Malformed, accepts_framed, self.scheme, self.key, [1], [], context=[], digested=digested)

    def test_the_longest_message(self):
        message = some_bytes(65536)
        for digested in (False, True):
            signature = sign_framed(self.scheme, self.key, message, context=[5] * 255, digested=digested)
            self.assertIs(accepts_framed(self.scheme, self.public, message, signature, context=[5] * 255,
                                         digested=digested), True)
