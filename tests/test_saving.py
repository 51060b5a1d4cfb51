"""[44] and [45]: the texts of jars and ledgers, and reading them back: just the written texts, and the first wrong line."""

import random
import unittest

from crumbjar.crumbs import Crumb
from crumbjar.errors import BadJar, BadLedger, BadText
from crumbjar.futures import replayed, same_future
from crumbjar.jars import Jar
from crumbjar.ledgers import Ledger
from crumbjar.saving import jar_at, jar_text, ledger_at, ledger_text
from crumbjar.words import LAST_TICK
from kinds import OTHERS
from some_jars import done, some_deeds, some_jar, some_ledger

NEAR, FAR = (("https", "a.com"), False), (("http", "b.com"), True)
CRUMBS = (
    Crumb("n", "1", "a.com", born=(5, 0), seen=7),
    Crumb("", "a \"b\"\\\t=c", "x.a.com", is_exact=False, path="/a\"\\/", born=(5, 10 ** 30), seen=9, ends=99),
    Crumb("n", "", "a.com", is_secure=True, is_hidden=True, same="none", priority=2, space=FAR, path="/x"),
    Crumb("m n", "2", "a.com", is_secure=True, same="strict", priority=0, space=NEAR, born=(1, 2), seen=3, ends=4),
)
JAR = Jar(("com", "*.uk", "!city.uk"), most_of_family=3, most=1000, crumbs=CRUMBS, tick=9)
JAR_LINES = (
    "jar 9 3 1000",
    "rule com",
    "rule *.uk",
    "rule !city.uk",
    "crumb - a.com exact / \"n\" \"1\" - - default 1 - 5 0 7",
    "crumb - x.a.com below /a\"\\/ \"\" \"a \\\"b\\\"\\\\\\t=c\" - - default 1 99 5 1000000000000000000000000000000 9",
    "crumb http:b.com:far a.com exact /x \"n\" \"\" secure hidden none 2 - 0 0 0",
    "crumb https:a.com:near a.com exact / \"m n\" \"2\" secure - strict 0 4 1 2 3",
)
KEYS = tuple(sorted(crumb.key for crumb in CRUMBS))
LEDGER = Ledger(
    writes={KEYS[0]: ((50, "b", 5), (40, "a", 4), ("v\tw", False, True, "lax", 2, 60)), KEYS[1]: ((50, "b", 5), (50, "b", 5), None),
            KEYS[3]: ((LAST_TICK, "abcdefgh", 0), (LAST_TICK, "abcdefgh", 0), None)},
    seens={KEYS[0]: 7, KEYS[2]: 0, KEYS[3]: LAST_TICK})
LEDGER_LINES = (
    "ledger",
    "write - a.com exact / \"n\" 50 b 5 40 a 4 \"v\\tw\" - hidden lax 2 60",
    "seen - a.com exact / \"n\" 7",
    "gone - x.a.com below /a\"\\/ \"\" 50 b 5",
    "seen http:b.com:far a.com exact /x \"n\" 0",
    "gone https:a.com:near a.com exact / \"m n\" 253402300799 abcdefgh 0",
    "seen https:a.com:near a.com exact / \"m n\" 253402300799",
)


def first_wrong(read, lines):
    """The number of the first line up to which the lines are no text that is read, None if they all are."""
    for many in range(1, len(lines) + 1):
        try:
            read("\n".join(lines[:many]))
        except BadText:
            return many
    return None


class SavingTest(unittest.TestCase):
    def check_bad(self, read, text, line):
        with self.assertRaises(BadText) as caught:
            read(text)
        self.assertEqual((caught.exception.line, type(caught.exception.line)), (line, int), text)

    def check_line(self, number, line, *others):
        """Check that a line in the place of one of the jar's is the first that is wrong."""
        lines = list(JAR_LINES if not others else others[0])
        lines[number - 1] = line
        self.check_bad(jar_at if not others else ledger_at, "\n".join(lines), number)


class JarTextTest(SavingTest):
    def test_written(self):
        self.assertEqual(jar_text(JAR), "\n".join(JAR_LINES))
        self.assertEqual(jar_text(Jar(())), "jar 0 20 60")
        self.assertEqual(jar_text(Jar(("com",), most_of_family=1, most=7, tick=LAST_TICK)), "jar 253402300799 1 7\nrule com")
        self.assertEqual(jar_text(jar=Jar(())), "jar 0 20 60")

    def test_read_back(self):
        back = jar_at("\n".join(JAR_LINES))
        self.assertEqual(back, JAR)
        self.assertEqual((back.rules, back.crumbs, back.log), (JAR.rules, JAR.crumbs, ()))
        self.assertEqual(jar_at(text="jar 0 20 60"), Jar(()))
        for many in range(1, len(JAR_LINES) + 1):
            text = "\n".join(JAR_LINES[:many])
            self.assertEqual(jar_text(jar_at(text)), text)

    def test_long_numbers(self):
        jar = Jar((), crumbs=(Crumb("n", "1", "a.com", born=(0, 10 ** 999)),))
        self.assertEqual(jar_at(jar_text(jar)), jar)
        stamp = (5, "a", 10 ** 1000 - 1)
        ledger = Ledger(writes={KEYS[0]: (stamp, stamp, None)})
        self.assertEqual(ledger_at(ledger_text(ledger)), ledger)

    def test_quoted_texts(self):
        for text in ("\"", "\\", "\\\"", "\\t", "\t", "a\tb", "\\\\", "a b  c", "'", "t", "\\n", "\"\"", "crumb", "a\" \"b", "=", "\\ \""):
            crumb = Crumb("n", text.strip() or "x\t\"\\y", "a.com")
            self.assertEqual(jar_at(jar_text(Jar((), crumbs=(crumb,)))).crumbs, (crumb,))
            if "=" not in text and text.strip():
                crumb = Crumb(text.strip(), "", "a.com")
                self.assertEqual(jar_at(jar_text(Jar((), crumbs=(crumb,)))).crumbs, (crumb,))

    def test_by_chance(self):
        for seed in range(150):
            numbers = random.Random(seed)
            jar = some_jar(numbers, numbers.choice((700, LAST_TICK - 60)))
            self.assertEqual(jar_at(jar_text(jar)), jar)
            tick = jar.tick
            for deed in some_deeds(numbers, tick, 10):
                done(jar, deed)
                tick = deed[-1]
            back = jar_at(jar_text(jar))
            self.assertEqual(jar_text(back), jar_text(jar))
            self.assertEqual((back.crumbs, back.tick, back.log), (jar.crumbs, jar.tick, ()))
            for later in {min(tick + 1, LAST_TICK), min(tick + 120, LAST_TICK)} - {tick}:
                self.assertTrue(same_future(jar, back, later))
                deeds = some_deeds(numbers, later, 15)
                self.assertEqual(replayed(jar, deeds), replayed(back, deeds))

    def test_no_jars_and_no_strings(self):
        for value in (*OTHERS, Ledger()):
            with self.assertRaises(BadJar) as caught:
                jar_text(value)
            self.assertIs(caught.exception.given, value)
            if not isinstance(value, str):
                self.check_bad(jar_at, value, 0)
                self.check_bad(ledger_at, value, 0)

    def test_wrong_heads(self):
        for line in ("", "jar", "jar 9 3", "jar 9 3 1000 ", " jar 9 3 1000", "jar  9 3 1000", "jar 9 3 1000 5", "Jar 9 3 1000", "jar 09 3 1000",
                     "jar 9 03 1000", "jar 9 3 01000", "jar 9 0 1000", "jar 9 3 1001", "jar 9 1001 1000", "jar 9 3 0", "jar -1 3 1000",
                     "jar +9 3 1000", "jar 253402300800 3 1000", "jar x 3 1000", "jar 9 - 1000", "jar 9 3 -", "jar\t9 3 1000",
                     "jar 9_0 3 1000", "jar 9 3 1000\t", "ledger", "jar 9\" 3 1000", "jar " + "9" * 5000 + " 3 1000"):
            self.check_line(1, line)
            self.check_bad(jar_at, line, 1)
        self.check_bad(jar_at, "\n".join(JAR_LINES[1:]), 1)

    def test_wrong_rules(self):
        for line in ("rule", "rule ", "rule  com", "rule *", "rule !uk", "rule a b", "rule Com", "rule com.", "rule com ", "Rule com", ""):
            self.check_line(2, line)
        self.check_line(3, "rule com")
        many = ["jar 0 1 1"] + [f"rule r{at}" for at in range(31)]
        self.assertEqual(len(jar_at("\n".join(many[:31])).rules), 30)
        self.check_bad(jar_at, "\n".join(many), 32)
        self.check_bad(jar_at, "\n".join((*JAR_LINES, "rule net")), 9)
        # Under another rule a crumb behind it is none.
        self.check_bad(jar_at, "\n".join((*JAR_LINES[:4], "rule x.a.com", *JAR_LINES[4:])), 7)

    def test_wrong_crumbs(self):
        right = JAR_LINES[4]
        for wrong in (
            right + " ", " " + right, right.replace(" ", "  ", 1), right[:-2], right + " 7", right.replace("crumb", "Crumb"),
            right.replace("- a.com", "a.com"), right.replace("- a.com", "-  a.com"), right.replace("a.com", "A.com"),
            right.replace("exact", "Exact"), right.replace("exact", "near"), right.replace(" / ", " x "), right.replace("\"n\"", "n"),
            right.replace("\"n\"", "\"n"), right.replace("\"n\"", "n\""), right.replace("\"n\"", "\"n\"\""), right.replace("\"n\"", "\"\\n\""),
            right.replace("\"n\"", "\"n \""), right.replace("\"n\"", "\"a=b\""), right.replace("\"n\"", "\"a\tb\""), right.replace("\"n\"", "\"n\\\""),
            right.replace("\"1\"", "1"), right.replace("\"1\"", "\"1;\""), right.replace("\"1\" -", "\"1\" Secure"),
            right.replace("\"1\" - -", "\"1\" - secure"), right.replace("\"1\" - -", "\"1\" hidden -"), right.replace("default", "Default"),
            right.replace("default", "none"), right.replace("default", "-"), right.replace("default 1", "default 01"),
            right.replace("default 1", "default 3"), right.replace("default 1", "default -"), right.replace("1 - 5", "1 none 5"),
            right.replace("1 - 5", "1 7 5"), right.replace("1 - 5", "1 08 5"), right.replace("1 - 5", "1 34560008 5"),
            right.replace(" 5 0 7", " 05 0 7"), right.replace(" 5 0 7", " 5 00 7"), right.replace(" 5 0 7", " 5 0 07"),
            right.replace(" 5 0 7", " 8 0 7"), right.replace(" 5 0 7", " 5 -1 7"), right.replace(" 5 0 7", " 5 0 10"),
            right.replace(" 5 0 7", " 5 " + "1" * 5000 + " 7"), right.replace("- a.com", "https:a.com:near a.com"), right.replace("- a.com", ": a.com"),
            right.replace("a.com exact", "com below"), right.replace("- a.com", "https:a.com:there a.com").replace("- - ", "secure - "),
            right.replace("a.com exact", "1.2.3.4 below"), right.replace("\"n\"", "\"__Host-n\""), "crumb", "", "rule com",
        ):
            self.check_line(5, wrong)
        for right in ("1 8 5", "1 9 5", "1 34560007 5", "1 - 5"):
            text = "\n".join(JAR_LINES).replace("default 1 - 5 0", f"default {right} 0")
            self.assertEqual(jar_text(jar_at(text)), text)
        self.check_line(7, JAR_LINES[6].replace("far", "near"))
        self.check_line(7, JAR_LINES[6].replace("http:b.com", "http:x.b.com"))
        self.check_line(8, JAR_LINES[7].replace("near", "far"))
        self.check_line(8, JAR_LINES[7].replace("secure", "-"))

    def test_order_and_limits(self):
        lines = list(JAR_LINES)
        for at in (5, 6, 7):
            turned = lines[:at - 1] + [lines[at], lines[at - 1]] + lines[at + 1:]
            self.check_bad(jar_at, "\n".join(turned), at + 1)
            doubled = lines[:at] + [lines[at - 1]] + lines[at:]
            self.check_bad(jar_at, "\n".join(doubled), at + 1)
        few = [f"crumb - a.com exact / \"n{at}\" \"\" - - lax 1 - 0 0 0" for at in range(4)]
        self.check_bad(jar_at, "\n".join(["jar 0 3 9", *few]), 5)
        self.check_bad(jar_at, "\n".join(["jar 0 9 2", "rule com", *few]), 5)
        self.check_bad(jar_at, "\n".join(["jar 0 9 2", *few[:2], few[0], few[3]]), 4)
        self.assertEqual(len(jar_at("\n".join(["jar 0 4 4", *few])).crumbs), 4)

    def test_ends(self):
        text = "\n".join(JAR_LINES)
        for wrong, line in ((text + "\n", 9), ("\n" + text, 1), (text + "\n\n", 9), (text + " ", 8), (text.replace("\n", "\n\n", 1), 2),
                            (text.replace("\n", " \n", 1), 1), ("", 1), ("\n", 1), (ledger_text(LEDGER), 1)):
            self.check_bad(jar_at, wrong, line)


class LedgerTextTest(SavingTest):
    def test_written(self):
        self.assertEqual(ledger_text(LEDGER), "\n".join(LEDGER_LINES))
        self.assertEqual(ledger_text(ledger=Ledger()), "ledger")

    def test_read_back(self):
        for many in range(1, len(LEDGER_LINES) + 1):
            text = "\n".join(LEDGER_LINES[:many])
            self.assertEqual(ledger_text(ledger_at(text)), text)
        self.assertEqual(ledger_at(text="\n".join(LEDGER_LINES)), LEDGER)
        self.assertEqual(ledger_at("ledger"), Ledger())
        for seed in range(100):
            ledger = some_ledger(random.Random(seed))
            self.assertEqual(ledger_at(ledger_text(ledger)), ledger)

    def test_no_ledgers(self):
        for value in (*OTHERS, Jar(())):
            with self.assertRaises(BadLedger) as caught:
                ledger_text(value)
            self.assertIsNone(caught.exception.given)

    def test_wrong_lines(self):
        for line in ("", "Ledger", "ledger ", " ledger", "ledger\t", "jar 0 20 60"):
            self.check_line(1, line, LEDGER_LINES)
        right = LEDGER_LINES[1]
        for wrong in (
            "", "write", right + " ", right + " 5", right[:-3], right.replace("write", "gone"), right.replace("write", "seen"), right.replace("write", "crumb"),
            right.replace("50 b 5", "50 b"), right.replace("50 b 5", "050 b 5"), right.replace("50 b 5", "50 B 5"), right.replace("50 b 5", "50 b 05"),
            right.replace("50 b 5", "50 abcdefghi 5"), right.replace("50 b 5", "40 a 3"), right.replace("40 a 4", "50 b 6"), right.replace("40 a 4", "40 a -1"),
            right.replace(" 60", " -"), right.replace(" 60", " 50"), right.replace(" 60", " 060"), right.replace(" 60", " 34560051"),
            right.replace("\\t", "\t"), right.replace("v\\tw", "v "), right.replace("hidden", "secure"), right.replace("lax", "none"), right.replace("a.com", "a.com "),
            right.replace("write - ", "write "), right.replace(" 5 40 a 4", " 5  40 a 4"), right.replace("\"n\"", "n"), right.replace("\"n\"", "\"\\x\""),
            right.replace("exact", "x"), "gone - a.com exact / \"n\" 50 b", "gone - a.com exact / \"n\" 50 b 5 50 b 5", "seen - a.com exact / \"n\"",
            "seen - a.com exact / \"n\" 07", "seen - a.com exact / \"n\" -1", "seen - a.com exact / \"n\" 253402300800", "seen - a.com exact / \"n\" -",
            "seen - a.com exact / n 7", "seen a:b - a.com / \"n\" 7", "seen - a.com exact / \"n\" 7 ",
        ):
            self.check_line(2, wrong, LEDGER_LINES)
        for right in (right.replace(" 60", " 34560050"), right.replace(" 60", " 51"), right.replace("40 a 4", "50 b 5"), right.replace("40 a", "0 z")):
            text = "\n".join((LEDGER_LINES[0], right, *LEDGER_LINES[2:]))
            self.assertEqual(ledger_text(ledger_at(text)), text)

    def test_order(self):
        lines = list(LEDGER_LINES)
        for at in range(1, 6):
            turned = lines[:at] + [lines[at + 1], lines[at]] + lines[at + 2:]
            self.check_bad(ledger_at, "\n".join(turned), at + 2)
        for at in range(1, 7):
            self.check_bad(ledger_at, "\n".join(lines[:at + 1] + lines[at:]), at + 2)
            left_out = "\n".join(lines[:at] + lines[at + 1:])
            self.assertEqual(ledger_text(ledger_at(left_out)), left_out)
        gone = "gone - a.com exact / \"n\" 60 b 5"
        self.check_bad(ledger_at, "\n".join((*lines[:2], gone, *lines[2:])), 3)
        self.check_bad(ledger_at, "\n".join((*lines[:3], gone)), 4)
        self.check_bad(ledger_at, "\n".join(lines) + "\n", 8)
        self.check_bad(ledger_at, "\n".join(lines[1:]), 1)


class ChangedTextsTest(SavingTest):
    def check(self, read, write, lines, text):
        try:
            self.assertEqual(write(read(text)), text)
        except BadText as wrong:
            self.assertEqual(wrong.line, first_wrong(read, text.split("\n")), text)

    def test_one_sign(self):
        for read, write, lines in ((jar_at, jar_text, JAR_LINES), (ledger_at, ledger_text, LEDGER_LINES)):
            text = "\n".join(lines)
            for at in range(len(text) + 1):
                self.check(read, write, lines, text[:at] + text[at + 1:])
                for sign in " 0-\"\\a:\n\t/":
                    self.check(read, write, lines, text[:at] + sign + text[at:])
                    self.check(read, write, lines, text[:at] + sign + text[at + 1:])

    def test_more_changes(self):
        for read, write, lines in ((jar_at, jar_text, JAR_LINES), (ledger_at, ledger_text, LEDGER_LINES)):
            for seed in range(200):
                numbers = random.Random(seed)
                changed = numbers.sample(lines[1:], numbers.randint(1, len(lines) - 1))
                if numbers.random() < 0.5:
                    changed = sorted(changed, key=lines.index)
                self.check(read, write, lines, "\n".join([lines[0], *changed]))


if __name__ == "__main__":
    unittest.main()
