"""[10] to [14]: what a line tells, what gives no crumb, the attributes, and how lines are written."""

import itertools
import unittest

from crumbjar.errors import BadLine
from crumbjar.lines import Line, NoCrumb, read_line, write_line
from crumbjar.pieces import defects_of
from crumbjar.words import LAST_TICK
from kinds import OTHERS, not_texts

DATE = "Sun, 06 Nov 1994 08:49:37 GMT"
NOVEMBER = 784111777
FIELDS = ("name", "value", "expires", "age", "domain", "path", "is_secure", "is_hidden", "same", "is_partitioned",
          "priority")
NONE = (None, None, None, None, False, False, None, False, None)
# For each attribute some texts and what they tell, the parameter of Line first.
TEXTS = {
    "expires": (("Expires=" + DATE, NOVEMBER), ("EXPIRES=1 jan 1601 0:0:0", 0),
                ("Expires=31 Dec 9999 23:59:59", LAST_TICK)),
    "age": (("Max-Age=0", 0), ("max-age=007", 7), ("MAX-AGE=-1", 0), ("Max-Age=-0", 0), ("Max-Age=34559999", 34559999),
            ("Max-Age=34560000", 34560000), ("Max-Age=34560001", 34560000), ("Max-Age=" + "9" * 1024, 34560000),
            ("Max-Age=-" + "9" * 1023, 0)),
    "domain": (("Domain=a.com", "a.com"), ("domain=.A.Com", "a.com"), ("DOMAIN= 1.2.3.4 ", "1.2.3.4")),
    "path": (("Path=/", "/"), ("PATH=/A/b=c", "/A/b=c"), ("path = /x\t", "/x")),
    "is_secure": (("Secure", True), ("SECURE", True), ("secure=0", True)),
    "is_hidden": (("HttpOnly", True), ("httponly", True), ("HTTPONLY=", True)),
    "same": (("SameSite=Strict", "strict"), ("samesite=LAX", "lax"), ("SAMESITE=None", "none")),
    "is_partitioned": (("Partitioned", True), ("PARTITIONED", True), ("partitioned=x", True)),
    "priority": (("Priority=Low", 0), ("priority=MEDIUM", 1), ("PRIORITY=High", 2)),
}
WRONG_PIECES = ("", " \t", "x", "x=y", "=", "Expires", "Expires=x", "Max-Age=x", "Max-Age=", "Domain=a..b", "Path=x",
                "SameSite=x", "Priority=x", "Path=" + "/" * 1025, "Secure=" + "x" * 1025, "Path")
# What tells every attribute of a line.
FULL = {"expires": NOVEMBER, "age": 5, "domain": "a.com", "path": "/x", "is_secure": True, "is_hidden": True,
        "same": "none", "is_partitioned": True, "priority": 2}


def parts(line):
    """All that a line has."""
    return tuple(getattr(line, field) for field in FIELDS)


def many_lines():
    """Lines with all choices of what they have."""
    choices = ((None, 0, NOVEMBER), (None, 0, 5), (None, "a.com"), (None, "/x"), (False, True), (False, True),
               (None, "strict", "lax", "none"), (False, True), (None, 0, 1, 2))
    for settings in itertools.product(*choices):
        yield Line("n", "v", **dict(zip(FIELDS[2:], settings)))


class ReadTest(unittest.TestCase):
    def check(self, text, *told):
        line = read_line(text)
        self.assertIsInstance(line, Line)
        self.assertEqual(parts(line), told)
        self.assertEqual([type(part) for part in parts(line)], [type(part) for part in told])

    def test_names_and_values(self):
        for text, name, value in (("a=b", "a", "b"), ("a", "", "a"), ("a=", "a", ""), ("=b", "", "b"),
                                  ("==", "", "="), ("a=b=c", "a", "b=c"), (" \ta \t=\t b ", "a", "b"),
                                  ("\ta b\tc ", "", "a b\tc"), ("Path=/", "Path", "/"), ("secure", "", "secure"),
                                  ("A=B", "A", "B"), ("a=b;;", "a", "b")):
            self.check(text, name, value, *NONE)
        self.assertEqual(read_line(text="a=b"), Line("a", "b"))

    def test_attributes(self):
        for field, pairs in TEXTS.items():
            for piece, told in pairs:
                with self.subTest(piece[:40]):
                    self.check("a=b;" + piece, *parts(Line("a", "b", **{field: told})))
                    self.assertEqual(read_line("a=b; " + piece), Line("a", "b", **{field: told}))

    def test_attributes_of_the_first_piece_are_none(self):
        self.check("Path=/x; Secure", "Path", "/x", None, None, None, None, True, False, None, False, None)

    def test_wrong_pieces_tell_nothing(self):
        for piece in WRONG_PIECES:
            self.check("a=b;" + piece, "a", "b", *NONE)

    def test_the_last_one_that_counts_holds(self):
        for field, pairs in TEXTS.items():
            for (first, _), (last, told) in itertools.product(pairs, repeat=2):
                wanted = Line("a", "b", **{field: told})
                self.assertEqual(read_line(f"a=b;{first};{last}"), wanted)
                for wrong in WRONG_PIECES:
                    self.assertEqual(read_line(f"a=b;{first};{wrong};{last};{wrong}"), wanted)

    def test_the_example(self):
        line = read_line("a=b=c; PATH=/x; Path=y; Secure=; Expires=6 nov 94 08:49:37; secure;")
        self.assertEqual(parts(line), ("a", "b=c", NOVEMBER, None, None, "/x", True, False, None, False, None))

    def test_no_string(self):
        for value in not_texts():
            with self.assertRaises(BadLine) as caught:
                read_line(value)
            self.assertEqual(caught.exception.field, "text")


class NoCrumbTest(unittest.TestCase):
    def check(self, text, word):
        found = read_line(text)
        self.assertIsInstance(found, NoCrumb)
        self.assertEqual(found.word, word)
        self.assertEqual(found, NoCrumb(word))

    def test_control(self):
        for code in range(32):
            if code != 9:
                for text in ("a=b{}", "{}", "a{}=b", "a=b;x{}", "a=b;{};Secure", "={}", "x" * 5000 + "{}"):
                    self.check(text.format(chr(code)), "control")
        self.check("\n=;", "control")

    def test_tabs_are_no_control(self):
        self.assertEqual(read_line("\ta\tb\t=\tc\td\t;\tSecure\t"), Line("a\tb", "c\td", is_secure=True))

    def test_empty(self):
        for text in ("", "=", " ", "\t = \t", ";", ";a=b", "=;Path=/", " ;Secure"):
            self.check(text, "empty")

    def test_long(self):
        for name, value in ((4097, 0), (4096, 1), (1, 4096), (2000, 2097), (5000, 5000)):
            self.check("n" * name + "=" + "v" * value, "long")
        self.check("v" * 4097, "long")
        self.check("=" + "v" * 4097 + ";Secure", "long")

    def test_not_long(self):
        for name, value in ((4096, 0), (4095, 1), (1, 4095), (0, 4096), (2000, 2096)):
            text = " " * 9 + "n" * name + " = " + "v" * value + " " * 9
            self.assertEqual(read_line(text), Line("n" * name, "v" * value))
        self.assertEqual(read_line("v" * 4096), Line("", "v" * 4096))
        self.assertEqual(read_line("a=b;" + "x" * 5000), Line("a", "b"))

    def test_class(self):
        self.assertEqual(NoCrumb(word="long").word, "long")
        self.assertTrue(NoCrumb("long") == NoCrumb("long"))
        self.assertFalse(NoCrumb("long") != NoCrumb("long"))
        self.assertFalse(NoCrumb("long") == NoCrumb("empty"))
        for value in OTHERS + ("long", Line("a", "b")):
            self.assertIs(NoCrumb("long") == value, False)


class LineTest(unittest.TestCase):
    def check_wrong(self, field, **settings):
        given = {"name": "n", "value": "v", **settings}
        with self.assertRaises(BadLine, msg=settings) as caught:
            Line(given.pop("name"), given.pop("value"), **given)
        self.assertEqual(caught.exception.field, field)

    def test_properties(self):
        self.assertEqual(parts(Line("a", "b")), ("a", "b") + NONE)
        self.assertEqual(parts(Line(name="a", value="b", **FULL)), ("a", "b") + tuple(FULL.values()))
        with self.assertRaises(TypeError):
            Line("a", "b", NOVEMBER)

    def test_equal(self):
        self.assertTrue(Line("a", "b") == Line("a", "b"))
        self.assertTrue(Line("a", "b", **FULL) == Line("a", "b", **FULL))
        self.assertFalse(Line("a", "b", **FULL) != Line("a", "b", **FULL))
        self.assertFalse(Line("a", "b") == Line("a", "c"))
        self.assertFalse(Line("a", "b") == Line("c", "b"))
        for field in FULL:
            self.assertFalse(Line("a", "b", **FULL) == Line("a", "b", **{**FULL, field: Line("a", "b").__dict__[field]}))
        for value in OTHERS + (NoCrumb("long"), "a=b"):
            self.assertIs(Line("a", "b") == value, False)
            self.assertIs(Line("a", "b") != value, True)

    def test_right_names_and_values(self):
        for name, value in (("", "v"), ("n", ""), ("n", "a=b"), ("", "a=b"), ("", "="), ("n m", "v w"), ("n\tm", "v\tw"),
                            ("n" * 4096, ""), ("", "v" * 4096), ("n" * 2000, "v" * 2096), ("\"n\"", "\"v\""),
                            ("Secure", "Path=/")):
            line = Line(name, value)
            self.assertEqual((line.name, line.value), (name, value))
            self.assertEqual(read_line(name + "=" + value), line)

    def test_wrong_names(self):
        for name in ("=", "a=", "a=b", ";", "a;b", " a", "a ", "\ta", "a\t", " ", "\t", "a\nb", "\n", "n" * 4097):
            self.check_wrong("name", name=name)
            self.check_wrong("name", name=name, value=5, age="x")
        for name in not_texts():
            self.check_wrong("name", name=name)

    def test_wrong_values(self):
        for value in (";", "a;b", " a", "a ", "\ta", "a\t", " ", "a\nb", "\n", "v" * 4096, "v" * 4097):
            self.check_wrong("value", value=value)
            self.check_wrong("value", value=value, age="x")
        for value in not_texts():
            self.check_wrong("value", value=value)
        self.check_wrong("value", name="", value="")
        self.check_wrong("value", name="", value="v" * 4097)
        self.check_wrong("value", name="n" * 4096, value="v")
        self.check_wrong("value", name="n" * 2000, value="v" * 2097)

    def test_right_settings(self):
        for field, values in {"expires": (0, LAST_TICK), "age": (0, 1, 34560000), "domain": ("a", "1.2.3.4"),
                              "path": ("/", "/" * 200), "same": ("strict", "lax", "none"), "priority": (0, 1, 2),
                              "is_secure": (True, False), "is_hidden": (True, False),
                              "is_partitioned": (True, False)}.items():
            for value in values:
                self.assertEqual(getattr(Line("a", "b", **{field: value}), field), value)

    def test_wrong_settings(self):
        wrong = {
            "expires": (-1, LAST_TICK + 1, True, False, "5", DATE, 5.0, (), []),
            "age": (-1, 34560001, True, False, "5", 5.0, (), []),
            "domain": ("", ".a", "A", "a.", "a..b", "1.2", 5, True, False, (), ["a"]),
            "path": ("", "a", "/a b", "/;", "/" * 201, 5, True, False, (), ["/"]),
            "is_secure": (None, 0, 1, "", "x", (), []),
            "is_hidden": (None, 0, 1, "", "x", (), []),
            "same": ("", "Strict", "LAX", "default", 0, True, False, (), ["lax"], ("lax",)),
            "is_partitioned": (None, 0, 1, "", "x", (), []),
            "priority": (-1, 3, True, False, "low", 1.0, (), [1]),
        }
        for field, values in wrong.items():
            for value in values:
                self.check_wrong(field, **{field: value})
                for later in FIELDS[FIELDS.index(field) + 1:]:
                    self.check_wrong(field, **{field: value, later: object()})

    def test_each_line_that_is_read_can_be_made(self):
        for line in many_lines():
            settings = dict(zip(FIELDS, parts(line)))
            self.assertEqual(Line(settings.pop("name"), settings.pop("value"), **settings), line)


class WriteTest(unittest.TestCase):
    def test_texts(self):
        for line, text in (
            (Line("a", "b"), "a=b"),
            (Line("", "b"), "=b"),
            (Line("", "b=c"), "=b=c"),
            (Line("a", ""), "a="),
            (Line("a", "b=c"), "a=b=c"),
            (Line("a", "b", expires=0), "a=b; Expires=Thu, 01 Jan 1970 00:00:00 GMT"),
            (Line("a", "b", age=0), "a=b; Max-Age=0"),
            (Line("a", "b", age=34560000), "a=b; Max-Age=34560000"),
            (Line("a", "b", domain="1.2.3.4"), "a=b; Domain=1.2.3.4"),
            (Line("a", "b", path="/A"), "a=b; Path=/A"),
            (Line("a", "b", is_secure=True), "a=b; Secure"),
            (Line("a", "b", is_hidden=True), "a=b; HttpOnly"),
            (Line("a", "b", same="strict"), "a=b; SameSite=Strict"),
            (Line("a", "b", same="lax"), "a=b; SameSite=Lax"),
            (Line("a", "b", same="none"), "a=b; SameSite=None"),
            (Line("a", "b", is_partitioned=True), "a=b; Partitioned"),
            (Line("a", "b", priority=0), "a=b; Priority=Low"),
            (Line("a", "b", priority=1), "a=b; Priority=Medium"),
            (Line("a", "b", priority=2), "a=b; Priority=High"),
            (Line("a", "b", **FULL), f"a=b; Expires={DATE}; Max-Age=5; Domain=a.com; Path=/x; Secure; HttpOnly; "
                                     "SameSite=None; Partitioned; Priority=High"),
        ):
            self.assertEqual(write_line(line), text)
        self.assertEqual(write_line(line=Line("a", "b")), "a=b")

    def test_the_example(self):
        line = read_line("a=b=c; PATH=/x; Path=y; Secure=; Expires=6 nov 94 08:49:37; secure;")
        self.assertEqual(write_line(line), "a=b=c; Expires=Sun, 06 Nov 1994 08:49:37 GMT; Path=/x; Secure")

    def test_read_the_same_without_defects(self):
        names = [Line(name, value) for name, value in (("", "v"), ("", "a=b"), ("n", ""), ("n" * 2000, "v" * 2096))]
        for line in itertools.chain(many_lines(), names):
            text = write_line(line)
            self.assertEqual(read_line(text), line)
            self.assertEqual(defects_of(text), ())


class FactsTest(unittest.TestCase):
    """[14]: what does not change what is read."""

    def test_a_piece_that_does_not_count_can_be_left_out(self):
        pool = WRONG_PIECES + ("Path=/", "Path=/x", "Secure", "Secure=1", "Max-Age=5", "path=/y")
        for pieces in itertools.product(pool, repeat=3):
            text = ";".join(("a=b",) + pieces)
            gone = [index for index, word in defects_of(text) if word not in ("value", "again")]
            left = [piece for index, piece in enumerate(pieces, start=1) if index not in gone]
            self.assertEqual(read_line(";".join(["a=b"] + left)), read_line(text))

    def test_the_order_of_different_attributes(self):
        pool = [pairs[0][0] for pairs in TEXTS.values()]
        for pieces in itertools.combinations(pool, 4):
            lines = [read_line(";".join(("a=b",) + order)) for order in itertools.permutations(pieces)]
            self.assertTrue(all(line == lines[0] for line in lines))

    def test_letters_of_any_case(self):
        for pairs in TEXTS.values():
            for piece, _ in pairs:
                name, sign, value = piece.partition("=")
                for change in (str.upper, str.lower, str.swapcase, str.title):
                    changed = change(name) + sign + (value if name.strip().lower() == "path" else change(value))
                    self.assertEqual(read_line("a=b;" + changed), read_line("a=b;" + piece))

    def test_blanks_around(self):
        for pairs in TEXTS.values():
            for piece, _ in pairs:
                name, sign, value = piece.partition("=")
                for blank in (" ", "\t", " \t\t "):
                    changed = blank + name + blank + sign + blank + value + blank
                    self.assertEqual(read_line(blank + "a" + blank + "=" + blank + "b" + blank + ";" + changed),
                                     read_line("a=b;" + piece))


if __name__ == "__main__":
    unittest.main()
