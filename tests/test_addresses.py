"""[7] and [8]: paths, origins, addresses, their texts, safety, default paths, paths that fit."""

import unittest

from crumbjar.addresses import (
    address_of, address_text, default_path, is_address, is_origin, is_path, is_safe, origin_of, path_fits,
)
from crumbjar.errors import BadAddress, BadOrigin, BadPath
from kinds import OTHERS, not_texts

PATH_200 = "/" + "a" * 199
ALL_SIGNS = "".join(chr(code) for code in range(33, 127) if chr(code) not in ";?#%")
PATHS = ("/", "/a", "//", "/a/", "/a/b", "/A.b-c_~!$&'()*+,=:@", "/" + ALL_SIGNS, PATH_200, "/\"<>[]\\^`{|}")
NO_PATHS = ("", "a", "a/", " /", "/ ", "/a b", "/;", "/?", "/#", "/%", "/a;b", "/a?b", "/a#b", "/\t", "/\n",
            PATH_200 + "a", "http://a/")
TEN_LABELS = ".".join(["a"] * 10)


class PathTest(unittest.TestCase):
    def test_paths(self):
        for text in PATHS:
            self.assertIs(is_path(text), True, text)
        self.assertIs(is_path(value="/"), True)

    def test_no_paths(self):
        for text in NO_PATHS:
            self.assertIs(is_path(text), False, text)
        for value in OTHERS:
            self.assertIs(is_path(value), False)

    def test_each_sign(self):
        for code in range(128):
            right = 33 <= code <= 126 and chr(code) not in ";?#%"
            self.assertIs(is_path("/" + chr(code)), right, code)
            self.assertIs(is_path("/a" + chr(code) + "b"), right, code)

    def test_lengths(self):
        for size in (1, 2, 199, 200):
            self.assertIs(is_path("/" * size), True)
        for size in (0, 201, 202, 1000):
            self.assertIs(is_path("/" * size), False)


class OriginTest(unittest.TestCase):
    def test_origins(self):
        for scheme in ("http", "https"):
            for host in ("a", "www.a.com", "1.2.3.4", "localhost", TEN_LABELS):
                self.assertIs(is_origin((scheme, host)), True)
                self.assertIs(is_address((scheme, host, "/")), True)
                self.assertIs(is_address((scheme, host)), False)
                self.assertIs(is_origin((scheme, host, "/")), False)
        self.assertIs(is_origin(value=("http", "a")), True)
        self.assertIs(is_address(value=("http", "a", "/x")), True)

    def test_no_origins(self):
        for value in (("ftp", "a"), ("HTTP", "a"), ("Https", "a"), ("", "a"), ("http:", "a"), ("http", "A"),
                      ("http", "a."), ("http", ""), ("http", "1.2"), ("http", None), (None, "a"), ("a", "http"),
                      ["http", "a"], ("http",), ("http", "a", "b"), "ha", (["http"], "a"), ("http", ["a"])):
            self.assertIs(is_origin(value), False, value)

    def test_no_addresses(self):
        for value in (("ftp", "a", "/"), ("HTTP", "a", "/"), ("http", "A", "/"), ("http", "a.", "/"),
                      ("http", "a", ""), ("http", "a", "a"), ("http", "a", "/?"), ("http", "a", None),
                      ("http", "a", PATH_200 + "a"), ["http", "a", "/"], ("http", "a", "/", ""), ("http", "/", "a")):
            self.assertIs(is_address(value), False, value)

    def test_values_of_other_kinds(self):
        for value in OTHERS:
            self.assertIs(is_origin(value), value == ("http", "a.com"))
            self.assertIs(is_address(value), value == ("http", "a.com", "/"))

    def test_safe(self):
        for origin in (("https", "a"), ("https", "1.2.3.4"), ("https", "localhost"), ("http", "localhost"),
                       ("http", "x.localhost"), ("http", "a.b.localhost"), ("https", "notlocalhost")):
            self.assertIs(is_safe(origin), True, origin)
        self.assertIs(is_safe(origin=("https", "a")), True)

    def test_not_safe(self):
        for origin in (("http", "a"), ("http", "1.2.3.4"), ("http", "127.0.0.1"), ("http", "notlocalhost"),
                       ("http", "localhost.a"), ("http", "https"), ("http", "x-localhost")):
            self.assertIs(is_safe(origin), False, origin)

    def test_safe_of_no_origin(self):
        for value in OTHERS + (("https", "A"), ("https", "a."), ("ftp", "a"), ("https", "a", "/")):
            if value != ("http", "a.com"):
                with self.assertRaises(BadOrigin) as caught:
                    is_safe(value)
                self.assertIs(caught.exception.given, value)


class AddressTest(unittest.TestCase):
    def check_place(self, text, place):
        with self.assertRaises(BadAddress) as caught:
            address_of(text)
        self.assertEqual(caught.exception.place, place, text)
        self.assertIs(type(caught.exception.place), int)

    def test_texts(self):
        for text, address in (
            ("http://a", ("http", "a", "/")),
            ("https://a/", ("https", "a", "/")),
            ("HTTP://A.b?x=1#y", ("http", "a.b", "/")),
            ("hTTpS://WWW.A.Com./X/y", ("https", "www.a.com", "/X/y")),
            ("http://a.", ("http", "a", "/")),
            ("http://a.?", ("http", "a", "/")),
            ("http://a#", ("http", "a", "/")),
            ("http://a/b?c/d", ("http", "a", "/b")),
            ("http://a/b#c?d", ("http", "a", "/b")),
            ("http://a/?", ("http", "a", "/")),
            ("http://a//b//", ("http", "a", "//b//")),
            ("http://1.2.3.4./x", ("http", "1.2.3.4", "/x")),
            ("http://a/:80@b", ("http", "a", "/:80@b")),
            ("http://a/http://b", ("http", "a", "/http://b")),
            ("http://a? ;\t\n\"#?", ("http", "a", "/")),
            ("http://a/b# ;\t\n\"#?", ("http", "a", "/b")),
            ("https://" + TEN_LABELS + "./x", ("https", TEN_LABELS, "/x")),
            ("http://abcdefghijklm.nopqrstuvwxyz.0123-456789", ("http", "abcdefghijklm.nopqrstuvwxyz.0123-456789", "/")),
            ("http://a" + PATH_200, ("http", "a", PATH_200)),
            ("http://a" + PATH_200 + "?" + "b" * 500, ("http", "a", PATH_200)),
        ):
            self.assertEqual(address_of(text), address)
        self.assertEqual(address_of(text="http://a"), ("http", "a", "/"))

    def test_no_string(self):
        for value in not_texts():
            self.check_place(value, 0)

    def test_schemes(self):
        for text, place in (("", 1), ("h", 2), ("HTT", 4), ("http", 5), ("https", 6), ("http:", 6), ("https:", 7),
                            ("http:/", 7), ("https:/", 8), ("http://", 8), ("HTTPS://", 9), ("a", 1), (" http://a", 1),
                            ("/", 1), ("hx", 2), ("httpx", 5), ("httpsx", 6), ("httpss://a", 6), ("http//a", 5),
                            ("http:a", 6), ("http:/a", 7), ("ftp://a", 1), ("http ://a", 5), ("http:///a", 8),
                            ("http://?", 8), ("https://#", 9)):
            self.check_place(text, place)

    def test_hosts(self):
        for text, place in (("http://.", 8), ("http://-", 8), ("http://a..", 10), ("http://a.b..c", 12),
                            ("https://a-", 11), ("http://a-/", 10), ("http://a-?", 10), ("http://a-#", 10),
                            ("http://1.2.3", 13), ("http://1.2.3/x", 13), ("http://1.2.3./x", 14),
                            ("http://1.2.3.256/", 17), ("http://a:80/", 9), ("http://a@b", 9), ("http://a b", 9),
                            ("http://a;", 9), ("http://" + "a" * 21, 28), ("http://" + TEN_LABELS + ".a", 28),
                            ("http://" + TEN_LABELS[:-1] + "1./", 27)):
            self.check_place(text, place)

    def test_paths(self):
        for text, place in (("http://a/;", 10), ("http://a/b c", 11), ("https://a/b\t?", 12), ("http://a/\n", 10),
                            ("http://a" + PATH_200 + "a", 209), ("http://a" + PATH_200 + ";", 209),
                            ("http://a" + PATH_200 + "a?", 209), ("http://a/b;?", 11)):
            self.check_place(text, place)

    def test_each_sign_of_a_path(self):
        for code in range(128):
            text = "http://a/" + chr(code)
            if is_path("/" + chr(code)):
                self.assertEqual(address_of(text), ("http", "a", "/" + chr(code)))
            elif chr(code) in "?#":
                self.assertEqual(address_of(text), ("http", "a", "/"))
            else:
                self.check_place(text, 10)

    def test_written_and_read(self):
        for path in PATHS:
            for origin in (("http", "a.b"), ("https", "1.2.3.4")):
                address = origin + (path,)
                text = address_text(address)
                self.assertEqual(text, origin[0] + "://" + origin[1] + path)
                self.assertEqual(address_of(text), address)
                self.assertEqual(origin_of(address), origin)
        self.assertEqual(address_text(address=("http", "a", "/")), "http://a/")
        self.assertEqual(origin_of(address=("http", "a", "/")), ("http", "a"))

    def test_no_address(self):
        for value in OTHERS + (("http", "A", "/"), ("http", "a", "")):
            if value != ("http", "a.com", "/"):
                for call in (origin_of, address_text):
                    with self.assertRaises(BadAddress) as caught:
                        call(value)
                    self.assertIsNone(caught.exception.place)


class FittingPathsTest(unittest.TestCase):
    def test_default_paths(self):
        for path, default in (("/", "/"), ("/a", "/"), ("/a/", "/a"), ("/a/b", "/a"), ("/a/b/", "/a/b"),
                              ("//", "/"), ("//a", "/"), ("/a//", "/a/"), ("/a/b.c", "/a"), (PATH_200, "/")):
            self.assertEqual(default_path(path), default)
        self.assertEqual(default_path(path="/a/b"), "/a")

    def test_fits(self):
        for path, own in (("/", "/"), ("/a", "/"), ("/a/b", "/a"), ("/a/b", "/a/"), ("/a/", "/a"), ("/a/", "/a/"),
                          ("/a", "/a"), ("//", "/"), ("/a/b/c", "/a/b"), ("/a//", "/a/")):
            self.assertIs(path_fits(path, own), True, (path, own))
        self.assertIs(path_fits(path="/a/b", own="/a"), True)

    def test_fits_not(self):
        for path, own in (("/ab", "/a"), ("/a", "/a/"), ("/", "/a"), ("/b/a", "/a"), ("/A", "/a"), ("/a.b", "/a"),
                          ("/a/b", "/b"), ("/a", "/a/b"), ("/a/bc", "/a/b")):
            self.assertIs(path_fits(path, own), False, (path, own))

    def test_no_path(self):
        for value in OTHERS + NO_PATHS:
            for call in (default_path, lambda path: path_fits(path, 5), lambda path: path_fits("/", path)):
                with self.assertRaises(BadPath) as caught:
                    call(value)
                self.assertIs(caught.exception.given, value)


if __name__ == "__main__":
    unittest.main()
