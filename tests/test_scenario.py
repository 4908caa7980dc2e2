"""Points 249 and 250: scenarios and reports."""

import random

from helpers import Case, kind_of
from sealgrove.errors import BadLine
from sealgrove.house import House, run
from sealgrove.scenario import read_scenario, report, write_scenario
from sealgrove.tower import Tower

GOOD = (
    ("sign -", ("sign", ())), ("sign 00", ("sign", (0,))), ("sign 6869", ("sign", (104, 105))), ("sign ff0a", ("sign", (255, 10))),
    ("sign " + "ab" * 2000, ("sign", (171,) * 2000)), ("skip 0", ("skip", 0)), ("skip 1", ("skip", 1)),
    ("skip 1000000", ("skip", 1000000)), ("skip 999999", ("skip", 999999)), ("fail 0", ("fail", 0)),
    ("fail 1000000", ("fail", 1000000)), ("crash -", ("crash", ())), ("crash 0001ff", ("crash", (0, 1, 255))),
    ("crash " + "07" * 64, ("crash", (7,) * 64)), ("open", ("open",)), ("head 0", ("head", 0)),
    ("head 1000000", ("head", 1000000)), ("offer 0 -", ("offer", 0, (), ())), ("offer 1000000 68", ("offer", 1000000, (104,), ())),
    ("offer 0 68 3=ff 5=00", ("offer", 0, (104,), ((3, 255), (5, 0)))),
    ("offer 12 - 1000000=0a", ("offer", 12, (), ((1000000, 10),))),
    ("offer 7 " + "cd" * 2000 + " 0=00" * 16, ("offer", 7, (205,) * 2000, ((0, 0),) * 16)),
    ("offer 7 00 3=ff 3=fe", ("offer", 7, (0,), ((3, 255), (3, 254)))),
)

BAD = (
    " ", "sign", "skip", "fail", "crash", "head", "offer", "offer 0", "open ", " open", "open 0", "open -", "Open", "OPEN",
    "sign  ", "sign ", "sign  68", "sign 68 ", " sign 68", "sign 68 69", "sign 6", "sign 686", "sign 6G", "sign 6A", "sign AB",
    "sign 0x68", "sign --", "sign -68", "sign 68-", "sign " + "ab" * 2001, "sign\t68", "sign 68\r", "sign\u00a068",
    "sign +1", "sign _1", "sign \u0661\u0661", "sign \uff11\uff11", "crash " + "07" * 65, "crash 7", "crash ", "crash - -",
    "crash 07 08", "skip -1", "skip +1", "skip 00", "skip 01", "skip 1000001", "skip 9999999", "skip 00000001",
    "skip 10000000", "skip 1_0", "skip \u0661", "skip \u00b2", "skip 1.0", "skip 1e3", "skip ", "skip 1 ", "skip  1", "skip 1 2",
    "skip a", "skip -", "fail -1", "fail None", "fail 1000001", "fail 007", "head -1", "head 1000001", "head", "head ", "head 0 0",
    "head " + "9" * 5000, "skip " + "0" * 5000, "offer 0 68 ", "offer 0  68", "offer  0 68", "offer 0 68  3=ff",
    "offer 1000001 68", "offer 01 68", "offer -1 68", "offer - 68", "offer 0 6", "offer 0 6G", "offer 0 " + "ab" * 2001,
    "offer 0 68 3", "offer 0 68 3=", "offer 0 68 3=f", "offer 0 68 3=fff", "offer 0 68 3=FF", "offer 0 68 3=-", "offer 0 68 =ff",
    "offer 0 68 3==ff", "offer 0 68 03=ff", "offer 0 68 1000001=ff", "offer 0 68 -1=ff", "offer 0 68 3 =ff", "offer 0 68 3= ff",
    "offer 0 68 3:ff", "offer 0 68 ff=3", "offer 0 68 3=ff=00", "offer 0 68 3=ff,5=00", "offer 0 68" + " 0=00" * 17,
    "offer 0 3=ff", "offer 0 68 -", "close", "signed 0", "sign68", "signs 68", "68", "-", "0", "=", "//", "; open", "open#",
    "open # why", "\x0b", "\x0c", "open\x0b", "\x1c", "\u2028", "\r", "head 1\r", "nothing",
)


class Reading(Case):
    def test_lines(self):
        for line, deed in GOOD:
            for text in (line, line + "\n", "\n" + line, "# " + line + "\n" + line + "\n\n"):
                self.assertEqual(read_scenario(text), [deed], text[:60])
        found = read_scenario(GOOD[19][0])
        self.assertTrue(type(found) is list and type(found[0]) is tuple and type(found[0][2]) is tuple)
        self.assertTrue(type(found[0][3]) is tuple and all(type(change) is tuple for change in found[0][3]))

    def test_texts(self):
        for text in ("", "\n", "\n\n\n", "#", "# a\n#b\n#", "#open\n\n"):
            self.assertEqual(read_scenario(text), [])
        text = "\n".join(line for line, _ in GOOD)
        self.assertEqual(read_scenario(text), [deed for _, deed in GOOD])
        self.assertEqual(read_scenario(text + "\n"), [deed for _, deed in GOOD])
        self.assertEqual(read_scenario(text.replace("\n", "\n\n# x\n")), [deed for _, deed in GOOD])

    def test_lines_that_are_none(self):
        for line in BAD:
            for text, number in ((line, 1), (line + "\n", 1), ("open\n" + line, 2), ("\n#\nopen\n\n" + line + "\nopen\n", 5),
                                 ("open\n" + line + "\n" + line, 2), (line + "\nskip -1\n", 1)):
                with self.assertRaises(BadLine) as caught:
                    read_scenario(text)
                self.assertIs(type(caught.exception), BadLine)
                self.assertEqual(caught.exception.line, number, text[:60])

    def test_only_newlines_end_lines(self):
        for sign in ("\r", "\x0b", "\x0c", "\x1c", "\x85", "\u2028", "\u2029"):
            with self.assertRaises(BadLine) as caught:
                read_scenario("open\nopen" + sign + "open\nopen")
            self.assertEqual(caught.exception.line, 2)
            self.assertEqual(read_scenario("#" + sign + "open\nopen"), [("open",)])

    def test_a_line_that_begins_with_a_blank_is_no_remark(self):
        with self.assertRaises(BadLine) as caught:
            read_scenario("# a\n # b")
        self.assertEqual(caught.exception.line, 2)


class Writing(Case):
    def test_there_and_back(self):
        for line, deed in GOOD:
            self.assertEqual(write_scenario([deed]), line + "\n")
        deeds = [deed for _, deed in GOOD]
        self.assertEqual(self.pure(write_scenario, deeds), "".join(line + "\n" for line, _ in GOOD))
        self.assertEqual(read_scenario(write_scenario(deeds)), deeds)
        self.assertEqual(write_scenario([]), "")

    def test_drawn_deeds(self):
        source = random.Random(249)
        for _ in range(200):
            deeds = []
            for _ in range(source.randrange(6)):
                data = tuple(source.randrange(256) for _ in range(source.randrange(5)))
                number = source.choice((0, 9, 10, 123456, 1000000))
                changes = tuple((source.randrange(1000001), source.randrange(256)) for _ in range(source.randrange(17)))
                deeds.append(source.choice((("sign", data), ("skip", number), ("fail", number), ("crash", data), ("open",),
                                            ("offer", number, data, changes), ("head", number))))
            self.assertEqual(read_scenario(write_scenario(deeds)), deeds)


class Reports(Case):
    def test_each_outcome(self):
        for outcome, line in (
                (("signed", 0), "signed 0"), (("signed", 2 ** 60 - 1), "signed 1152921504606846975"),
                (("skipped", 1000000), "skipped 1000000"), (("set", 7), "set 7"), (("crashed",), "crashed"),
                (("opened", 12), "opened 12"), (("power",), "power"), (("used",), "used"), (("stale",), "stale"),
                (("nothing",), "nothing"), (("wrong",), "wrong"), (("known", 3), "known 3"),
                (("accused", "clash"), "accused clash"), (("accused", "opened"), "accused opened"),
                (("head", 1, (10, 255)), "head 1 0aff"), (("head", 0, (0,)), "head 0 00"), (("head", 0, ()), "head 0 -")):
            self.assertEqual(report([outcome]), line + "\n")
            self.assertEqual(self.pure(report, [outcome, outcome]), line + "\n" + line + "\n")
        self.assertEqual(report([]), "")

    def test_a_scenario_of_a_house(self):
        text = "\n".join([
            "# a house that loses its power", "sign 6869", "", "fail 2", "sign -", "sign 01", "open", "crash 0100ff", "sign 02",
            "open", "skip 1", "sign 03", "offer 0 6869", "offer 0 68 0=ff", "offer 9 -", "head 2", "head 9", "skip 1000000"])
        house = House(Tower([kind_of("small-2", 1, 2), kind_of("small-2", 1, 1)]), [7] * 7 + [0] * 9, [1, 2], 64, 2)
        outcomes = run(house, read_scenario(text))
        lines = report(outcomes).split("\n")
        self.assertEqual(lines[:9], ["signed 0", "set 2", "signed 1", "power", "power", "crashed", "stale", "opened 2",
                                     "skipped 1"])
        digest = "".join(f"{byte:02x}" for byte in outcomes[13][2])
        self.assertEqual(lines[9:], ["signed 3", "known 0", "wrong", "nothing", "head 2 " + digest, "nothing", "used", ""])
