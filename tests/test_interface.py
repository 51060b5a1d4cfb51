"""The interface: names, files and arguments, and the examples of the document."""

import importlib
import inspect
import unittest

from crumbjar.addresses import address_of, default_path, path_fits
from crumbjar.errors import BadHost
from crumbjar.hosts import host_fits, host_of, is_host
from crumbjar.lines import read_line, write_line
from crumbjar.pieces import defects_of
from crumbjar.suffixes import family_of, site_of, suffix_of

FUNCTIONS = {
    "words": {"is_integer": "value", "is_tick": "value", "need_tick": "value"},
    "hosts": {"is_host": "value", "is_address_host": "value", "host_of": "text", "labels_of": "host",
              "host_fits": "host, domain"},
    "suffixes": {"need_rules": "rules", "suffix_of": "rules, host", "family_of": "rules, host",
                 "is_suffix": "rules, host", "site_of": "rules, origin"},
    "addresses": {"is_path": "value", "is_origin": "value", "is_address": "value", "is_safe": "origin",
                  "origin_of": "address", "address_of": "text", "address_text": "address", "default_path": "path",
                  "path_fits": "path, own"},
    "dates": {"date_of": "text", "date_text": "tick"},
    "pieces": {"pieces_of": "text", "defects_of": "text"},
    "lines": {
        "Line": "name, value, *, expires=None, age=None, domain=None, path=None, is_secure=False, is_hidden=False, "
                "same=None, is_partitioned=False, priority=None",
        "NoCrumb": "word",
        "read_line": "text",
        "write_line": "line",
    },
}


class InterfaceTest(unittest.TestCase):
    def test_names_and_arguments(self):
        for module, functions in FUNCTIONS.items():
            found = importlib.import_module("crumbjar." + module)
            for name, arguments in functions.items():
                with self.subTest(module + "." + name):
                    self.assertEqual(str(inspect.signature(getattr(found, name))), f"({arguments})")
                    self.assertEqual(getattr(found, name).__module__, "crumbjar." + module)

    def test_classes_compare_themselves(self):
        lines = importlib.import_module("crumbjar.lines")
        for kind in (lines.Line, lines.NoCrumb):
            self.assertIn("__init__", vars(kind))
            self.assertIn("__eq__", vars(kind))


class ExamplesTest(unittest.TestCase):
    def test_hosts(self):
        self.assertEqual(
            (host_of("WWW.Shop.example."), is_host("1.2.3"), is_host("1.2.3.4"), host_fits("a.b.c", "b.c"),
             host_fits("ab.c", "b.c")),
            ("www.shop.example", False, True, True, False))
        with self.assertRaises(BadHost) as caught:
            host_of("a..b")
        self.assertEqual(caught.exception.place, 3)

    def test_suffixes(self):
        rules = ("com", "*.uk", "!city.uk", "shop.com")
        self.assertEqual((suffix_of(rules, "a.b.co.uk"), family_of(rules, "a.b.co.uk"), family_of(rules, "a.city.uk")),
                         ("co.uk", "b.co.uk", "city.uk"))
        self.assertEqual(
            (family_of(rules, "x.shop.com"), family_of(rules, "shop.com"), site_of(rules, ("https", "www.x.com"))),
            ("x.shop.com", "shop.com", ("https", "x.com")))

    def test_addresses(self):
        self.assertEqual(
            (address_of("HTTP://A.b?x=1#y"), default_path("/a/b/"), default_path("/a"), path_fits("/a/b", "/a"),
             path_fits("/ab", "/a")),
            (("http", "a.b", "/"), "/a/b", "/", True, False))

    def test_lines(self):
        text = "a=b=c; PATH=/x; Path=y; Secure=; Expires=6 nov 94 08:49:37; secure;"
        line = read_line(text)
        self.assertEqual((line.value, line.path, defects_of(text)),
                         ("b=c", "/x", ((2, "path"), (3, "value"), (5, "again"), (6, "nothing"))))
        self.assertEqual(write_line(line), "a=b=c; Expires=Sun, 06 Nov 1994 08:49:37 GMT; Path=/x; Secure")


if __name__ == "__main__":
    unittest.main()
