"""[10], [12] and [13]: the pieces of lines and their defects."""

import unittest

from crumbjar.errors import BadLine
from crumbjar.pieces import defects_of, pieces_of
from kinds import not_texts

LONG = "1" * 1025
DATE = "Sun, 06 Nov 1994 08:49:37 GMT"


class PiecesTest(unittest.TestCase):
    def test_first_pieces(self):
        for text, piece in (
            ("", ("", "")),
            ("a", ("", "a")),
            ("a=b", ("a", "b")),
            ("a=", ("a", "")),
            ("=b", ("", "b")),
            ("=", ("", "")),
            ("==", ("", "=")),
            ("=a=b", ("", "a=b")),
            ("a=b=c==", ("a", "b=c==")),
            (" \ta b\t = \tc d \t", ("a b", "c d")),
            ("\t a\tb ", ("", "a\tb")),
            (" \t", ("", "")),
            ("A=B", ("A", "B")),
            ("\na=b\n", ("\na", "b\n")),
            ("\"a\"=\"b\"", ("\"a\"", "\"b\"")),
            ("a,b=c,d", ("a,b", "c,d")),
        ):
            self.assertEqual(pieces_of(text), (piece,), text)

    def test_other_signs_at_the_ends_stay(self):
        for code in range(33, 127):
            sign = chr(code)
            if sign not in ";=":
                self.assertEqual(pieces_of(f" {sign} = {sign} ; {sign} = {sign} "), ((sign, sign), (sign, sign)))

    def test_later_pieces(self):
        for text, pieces in (
            ("a=b;", (("", None),)),
            ("a=b;;", (("", None), ("", None))),
            ("a=b; ", (("", None),)),
            ("a=b;\t ;x", (("", None), ("x", None))),
            ("a=b;Secure", (("Secure", None),)),
            ("a=b; Secure =", (("Secure", ""),)),
            ("a=b;=", (("", ""),)),
            ("a=b;=c", (("", "c"),)),
            ("a=b; Path = /x ; SECURE", (("Path", "/x"), ("SECURE", None))),
            ("a=b;x=y=z", (("x", "y=z"),)),
            ("a=b;x\t=\ty z\t", (("x", "y z"),)),
            ("a=b;\nx=\ny", (("\nx", "\ny"),)),
        ):
            self.assertEqual(pieces_of(text), (("a", "b"),) + pieces, text)
        self.assertEqual(pieces_of(";"), (("", ""), ("", None)))
        self.assertEqual(pieces_of(text="a;b"), (("", "a"), ("b", None)))

    def test_kinds(self):
        self.assertIs(type(pieces_of("a;b")), tuple)
        self.assertTrue(all(type(piece) is tuple for piece in pieces_of("a;b=c")))
        self.assertIs(type(defects_of("a;b")), tuple)
        self.assertTrue(all(type(defect) is tuple for defect in defects_of("a;b=c")))

    def test_no_string(self):
        for value in not_texts():
            for call in (pieces_of, defects_of):
                with self.assertRaises(BadLine) as caught:
                    call(value)
                self.assertEqual(caught.exception.field, "text")


class DefectsTest(unittest.TestCase):
    def check(self, rest, *defects):
        """Check the defects of a line that has these pieces behind its first."""
        self.assertEqual(defects_of("a=b;" + rest), defects, rest)

    def check_word(self, word, *pieces):
        for piece in pieces:
            self.check(piece, (1, word))
            self.check("Secure;" + piece + " ; HttpOnly", (2, word))

    def check_right(self, *pieces):
        for piece in pieces:
            self.check(piece)

    def test_none(self):
        self.assertEqual(defects_of("a=b"), ())
        self.assertEqual(defects_of(text="a"), ())
        self.check(f"Expires={DATE}; Max-Age=5; Domain=a.com; Path=/; Secure; HttpOnly; SameSite=Lax; Partitioned;"
                   "Priority=High")

    def test_the_example(self):
        text = "a=b=c; PATH=/x; Path=y; Secure=; Expires=6 nov 94 08:49:37; secure;"
        self.assertEqual(defects_of(text), ((2, "path"), (3, "value"), (5, "again"), (6, "nothing")))

    def test_lines_that_give_no_crumb(self):
        for first in ("", "=", "\n", "x" * 5000, "a\n=b"):
            self.assertEqual(defects_of(first), ())
            self.assertEqual(defects_of(first + ";x;;Secure=1"), ((1, "unknown"), (2, "nothing"), (3, "value")))
        self.assertEqual(defects_of("a=b;Path=/\n"), ((1, "path"),))
        self.assertEqual(defects_of("a=b;\n"), ((1, "unknown"),))

    def test_nothing(self):
        self.check_word("nothing", "", " ", "\t", " \t \t ")
        self.check(";;", (1, "nothing"), (2, "nothing"), (3, "nothing"))

    def test_unknown(self):
        self.check_word("unknown", "x", "x=y", "=", "=x", " = ", "Secured", "MaxAge=5", "Max Age=5", "Same-Site=Lax",
                        "Version=1", "a=b", "x=" + LONG, "x" * 2000, "Expires" + LONG, "Http Only", "\"Secure\"")

    def test_long(self):
        for name in ("Expires", "Max-Age", "Domain", "Path", "SameSite", "Priority", "Secure", "HttpOnly",
                     "Partitioned", "pAtH"):
            self.check(f"{name}={LONG}", (1, "long"))
            self.check(f"{name}= \t{LONG}\t ", (1, "long"))
            self.check(f"{name}={'/' * 1025}", (1, "long"))
        self.check("Secure;Secure=" + LONG, (2, "long"))
        self.check("Path=/;Path=" + LONG, (2, "long"))

    def test_values_of_1024_signs(self):
        self.check("Max-Age=" + "1" * 1024)
        self.check("Max-Age=" + " " * 50 + "1" * 1024 + " " * 50)
        self.check("Max-Age=-" + "1" * 1023)
        self.check("Expires=" + DATE + " " + "x" * (1023 - len(DATE)))
        self.check("Expires=" + DATE + " " + "x" * (1024 - len(DATE)), (1, "long"))
        self.check("Secure=" + "x" * 1024, (1, "value"))
        self.check("Path=/" + "x" * 1023, (1, "path"))
        self.check("Domain=" + "x" * 1024, (1, "domain"))

    def test_date(self):
        self.check_word("date", "Expires", "Expires=", "Expires=x", "Expires=0", "expires=6 Nov 94", "EXPIRES=-1",
                        "Expires=30 Feb 2000 0:0:0")
        self.check_right(f"Expires={DATE}", "expires=1 jan 1601 0:0:0", "eXpIrEs = 6 8:49:37 94 NOV")

    def test_age(self):
        self.check_word("age", "Max-Age", "Max-Age=", "Max-Age=-", "Max-Age=+5", "Max-Age=5.0", "Max-Age=5 5",
                        "Max-Age=--5", "Max-Age=5-", "Max-Age=x", "Max-Age=\"5\"", "Max-Age=- 5", "Max-Age=1e3")
        self.check_right("Max-Age=0", "max-age=-0", "MAX-AGE=005", "Max-Age=-99", "Max-Age=34560001", "Max-Age= 5\t")

    def test_domain(self):
        self.check_word("domain", "Domain", "Domain=", "Domain=.", "Domain=..a", "Domain=a.", "Domain=.a.", "Domain=a..b",
                        "Domain=1.2.3", "Domain=.1.2.3.256", "Domain=a b", "Domain=. a", "Domain=" + "a" * 21,
                        "Domain=*.a", "Domain=http://a", "Domain=a_b")
        self.check_right("Domain=a", "Domain=.a", "domain=.WWW.A.Com", "DOMAIN=1.2.3.4", "Domain=.1.2.3.4",
                         "Domain = " + "a" * 20)

    def test_path(self):
        self.check_word("path", "Path", "Path=", "Path=a", "Path=a/", "Path=/a b", "Path=/?", "Path=/#",
                        "Path=/" + "a" * 200, "Path=\"/\"")
        self.check_right("Path=/", "path=/A=b", "PATH = /x ", "Path=/" + "a" * 199)

    def test_same(self):
        self.check_word("same", "SameSite", "SameSite=", "SameSite=x", "SameSite=default", "SameSite=Lax Strict",
                        "SameSite=Laxx", "SameSite=0", "SameSite=high")
        self.check_right("SameSite=Strict", "samesite=LAX", "SAMESITE=none", "SameSite = nOnE ")

    def test_priority(self):
        self.check_word("priority", "Priority", "Priority=", "Priority=x", "Priority=1", "Priority=highest",
                        "Priority=lax")
        self.check_right("Priority=Low", "priority=MEDIUM", "PRIORITY=high", "Priority = hIgH ")

    def test_value(self):
        for name in ("Secure", "HttpOnly", "Partitioned"):
            self.check_right(name, name.upper(), name.lower(), f"\t{name} ")
            self.check(f"{name}=", (1, "value"))
            self.check(f"{name}=1", (1, "value"))
            self.check(f"{name} = true", (1, "value"))
            self.check(f"{name}={name}", (1, "value"))

    def test_again(self):
        for name, value in (("Expires", "=" + DATE), ("Max-Age", "=5"), ("Domain", "=a"), ("Path", "=/"),
                            ("SameSite", "=Lax"), ("Priority", "=Low"), ("Secure", ""), ("HttpOnly", ""),
                            ("Partitioned", "")):
            piece = name + value
            self.check(f"{piece};{name.upper()}{value}", (2, "again"))
            self.check(f"{piece};x;{piece};{piece}", (2, "unknown"), (3, "again"), (4, "again"))

    def test_again_only_behind_a_piece_that_counts(self):
        self.check("Path=x;Path=/;Path=y;Path=/", (1, "path"), (3, "path"), (4, "again"))
        self.check(f"Path={LONG};Path=/", (1, "long"))
        self.check("Max-Age;Max-Age=5", (1, "age"))
        self.check("Secure=;Secure;Secure=", (1, "value"), (2, "again"), (3, "value"))
        self.check(f"Secure={LONG};Secure", (1, "long"))

    def test_different_attributes_are_not_again(self):
        self.check("Max-Age=5;Expires=" + DATE + ";Secure;HttpOnly;Partitioned")


if __name__ == "__main__":
    unittest.main()
