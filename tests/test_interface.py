"""The interface: names, files and arguments, and the examples of the document."""

import importlib
import inspect
import unittest

from crumbjar.addresses import address_of, default_path, path_fits
from crumbjar.browsers import Browser
from crumbjar.crumbs import Crumb
from crumbjar.errors import BadHost
from crumbjar.flows import audit, groups
from crumbjar.futures import settled
from crumbjar.hosts import host_fits, host_of, is_host
from crumbjar.jars import Jar, header
from crumbjar.ledgers import Ledger, jar_of, ledger_of
from crumbjar.lines import Line, NoCrumb, read_line, write_line
from crumbjar.papers import only_first
from crumbjar.pieces import defects_of
from crumbjar.requests import Request, lax, near, partition_of
from crumbjar.rules import broken_rules, line_paper
from crumbjar.saving import jar_text
from crumbjar.shelves import best_row, certificate, check_certificate, fewest
from crumbjar.shortest import shortest_line
from crumbjar.suffixes import family_of, site_of, suffix_of
from crumbjar.wishes import grant, lines_for

FUNCTIONS = {
    "words": {"is_integer": "value", "is_tick": "value", "need_tick": "value"},
    "hosts": {"is_host": "value", "is_address_host": "value", "host_of": "text", "labels_of": "host",
              "host_fits": "host, domain"},
    "suffixes": {"need_rules": "rules", "suffix_of": "rules, host", "family_of": "rules, host",
                 "is_suffix": "rules, host", "site_of": "rules, origin"},
    "addresses": {"is_path": "value", "is_origin": "value", "is_address": "value", "is_safe": "origin",
                  "origin_of": "address", "address_of": "text", "address_text": "address", "default_path": "path",
                  "path_fits": "path, own"},
    "dates": {"date_of": "text", "date_text": "tick"},
    "pieces": {"pieces_of": "text", "defects_of": "text"},
    "lines": {
        "Line": "name, value, *, expires=None, age=None, domain=None, path=None, is_secure=False, is_hidden=False, "
                "same=None, is_partitioned=False, priority=None",
        "NoCrumb": "word",
        "read_line": "text",
        "write_line": "line",
    },
    "shortest": {"shortest_date": "tick", "shortest_line": "line"},
    "requests": {
        "Request": "addresses, *, starter=None, frames=(), is_reading=True, by='http'",
        "near": "rules, request",
        "lax": "rules, request",
        "partition_of": "rules, request",
    },
    "crumbs": {
        "Crumb": "name, value, host, *, is_exact=True, path='/', is_secure=False, is_hidden=False, same='default', "
                 "priority=1, space=None, born=(0, 0), seen=0, ends=None",
        "remade": "crumb, **settings",
        "is_crumb": "rules, value",
        "has_ended": "crumb, tick",
    },
    "rules": {
        "line_paper": "rules, request, text, tick, crumbs",
        "crumb_of": "rules, request, text, tick, number",
        "broken_rules": "rules, crumb, request, tick",
    },
    "papers": {"request_for": "rules, crumb, tick", "only_first": "rules, crumb, other, tick"},
    "jars": {"Jar": "rules, *, most_of_family=20, most=60, crumbs=(), tick=0", "header": "pairs"},
    "limits": {
        "rank_of": "crumb",
        "group_of": "rules, crumb",
        "swept": "crumbs, tick",
        "goes": "rules, crumbs, key, *, most_of_family, most",
    },
    "stops": {
        "stop_of": "rules, crumb, request, tick",
        "next_change": "jar, request",
        "answers": "jar, request, goal",
    },
    "stamps": {"is_device": "value", "is_stamp": "value", "is_key": "value", "is_write": "key, value"},
    "ledgers": {
        "Ledger": "*, writes=None, seens=None",
        "ledger_of": "jar, device",
        "jar_of": "ledger, rules, tick, *, most_of_family=20, most=60",
    },
    "saving": {"jar_text": "jar", "jar_at": "text", "ledger_text": "ledger", "ledger_at": "text"},
    "futures": {
        "meets": "rules, key, other",
        "settled": "jar, tick",
        "same_future": "one, other, tick",
        "separating": "one, other, tick",
        "replayed": "jar, deeds",
    },
    "tables": {
        "is_answer": "value",
        "check_table": "value",
        "answer_of": "table, address",
        "texts_given": "answer, number, names",
    },
    "browsers": {"Browser": "rules, table, *, most_of_family=20, most=60"},
    "flows": {
        "setter_of": "rows, number, key",
        "alone": "rules, rows, family",
        "groups": "rules, rows, family, name",
        "audit": "rules, rows, *, most_of_family=20, most=60",
    },
    "shelves": {
        "weight": "shelf, wish, row",
        "best_row": "shelf, wish",
        "fewest": "shelf, wish",
        "certificate": "shelf, wish",
        "check_certificate": "shelf, wish, many, shown",
        "easiest": "shelf, pairs",
    },
    "wishes": {
        "shelf_of": "jar, request, tick",
        "why_not": "jar, request, wish, tick",
        "lines_for": "jar, request, wish, tick",
        "grant": "jar, request, wish, tick",
    },
}
# The methods of each class, with their arguments behind self.
METHODS = {
    "lines.Line": {"__eq__": "other"},
    "lines.NoCrumb": {"__eq__": "other"},
    "requests.Request": {"__eq__": "other", "step": "number"},
    "crumbs.Crumb": {"__eq__": "other"},
    "jars.Jar": {
        "__eq__": "other",
        "receive": "request, text, tick",
        "write": "request, text, tick",
        "look": "request, tick",
        "close": "tick",
        "clear": "family, tick",
        "chosen": "request, tick",
        "crumb_at": "key",
        "copied": "",
    },
    "ledgers.Ledger": {"__eq__": "other", "merged": "*others", "is_within": "other", "news_for": "other"},
    "browsers.Browser": {
        "__len__": "",
        "visit": "address, tick, *, is_reading=True",
        "follow": "address, tick, *, is_reading=True",
        "close": "tick",
        "rows": "",
    },
}
# The attributes that each object has as soon as it is created.
ATTRIBUTES = {
    "Line": "name value expires age domain path is_secure is_hidden same is_partitioned priority",
    "NoCrumb": "word",
    "Request": "addresses starter frames is_reading by target",
    "Crumb": "name value host is_exact path is_secure is_hidden same priority space born seen ends key",
    "Jar": "rules most_of_family most crumbs tick deeds log",
    "Ledger": "writes seens",
    "Browser": "tick pages",
}


class InterfaceTest(unittest.TestCase):
    def test_names_and_arguments(self):
        for module, functions in FUNCTIONS.items():
            found = importlib.import_module("crumbjar." + module)
            for name, arguments in functions.items():
                with self.subTest(module + "." + name):
                    self.assertEqual(str(inspect.signature(getattr(found, name))), f"({arguments})")
                    self.assertEqual(getattr(found, name).__module__, "crumbjar." + module)

    def test_methods_stand_in_the_class_itself(self):
        for place, methods in METHODS.items():
            module, _, name = place.partition(".")
            found = vars(getattr(importlib.import_module("crumbjar." + module), name))
            self.assertIn("__init__", found)
            for method, arguments in methods.items():
                with self.subTest(place + "." + method):
                    wanted = "(" + ", ".join(["self"] + ([arguments] if arguments else [])) + ")"
                    self.assertEqual(str(inspect.signature(found[method])), wanted)

    def test_attributes(self):
        made = (Line("n", "1"), NoCrumb("empty"), Request((("http", "a.com", "/"),)), Crumb("n", "1", "a.com"), Jar(()),
                Ledger(), Browser((), ()))
        self.assertEqual(sorted(ATTRIBUTES), sorted(type(value).__name__ for value in made))
        for value in made:
            for name in ATTRIBUTES[type(value).__name__].split():
                with self.subTest(type(value).__name__ + "." + name):
                    self.assertTrue(hasattr(value, name))


class ExamplesTest(unittest.TestCase):
    def test_hosts(self):
        self.assertEqual(
            (host_of("WWW.Shop.example."), is_host("1.2.3"), is_host("1.2.3.4"), host_fits("a.b.c", "b.c"),
             host_fits("ab.c", "b.c")),
            ("www.shop.example", False, True, True, False))
        with self.assertRaises(BadHost) as caught:
            host_of("a..b")
        self.assertEqual(caught.exception.place, 3)

    def test_suffixes(self):
        rules = ("com", "*.uk", "!city.uk", "shop.com")
        self.assertEqual((suffix_of(rules, "a.b.co.uk"), family_of(rules, "a.b.co.uk"), family_of(rules, "a.city.uk")),
                         ("co.uk", "b.co.uk", "city.uk"))
        self.assertEqual(
            (family_of(rules, "x.shop.com"), family_of(rules, "shop.com"), site_of(rules, ("https", "www.x.com"))),
            ("x.shop.com", "shop.com", ("https", "x.com")))

    def test_addresses(self):
        self.assertEqual(
            (address_of("HTTP://A.b?x=1#y"), default_path("/a/b/"), default_path("/a"), path_fits("/a/b", "/a"),
             path_fits("/ab", "/a")),
            (("http", "a.b", "/"), "/a/b", "/", True, False))

    def test_lines(self):
        text = "a=b=c; PATH=/x; Path=y; Secure=; Expires=6 nov 94 08:49:37; secure;"
        line = read_line(text)
        self.assertEqual((line.value, line.path, defects_of(text)),
                         ("b=c", "/x", ((2, "path"), (3, "value"), (5, "again"), (6, "nothing"))))
        self.assertEqual(write_line(line), "a=b=c; Expires=Sun, 06 Nov 1994 08:49:37 GMT; Path=/x; Secure")
        self.assertEqual(shortest_line(line), "a=b=c;EXPIRES=6 8:49:37 94 NOV;PATH=/x;SECURE")

    def test_requests(self):
        page, other = ("http", "www.a.com", "/shop/cart"), ("https", "b.com")
        linked, framed = Request((page,), starter=other), Request((page,), frames=(other,))
        self.assertEqual((near((), linked), lax((), linked), lax((), framed), partition_of((), framed)),
                         (False, True, False, (("https", "b.com"), True)))
        strict = Crumb("n", "1", "a.com", is_exact=False, same="strict")
        exact = Crumb("n", "1", "a.com", same="lax")
        self.assertEqual(
            (broken_rules((), strict, linked, 5), broken_rules((), exact, linked, 5), only_first((), exact, strict, 5).by),
            (("same",), ("host",), "http"))
        self.assertEqual(
            (line_paper((), linked, "n=1; Domain=a.com; Max-Age=60", 5, ()), line_paper((), linked, "__Host-n=1", 5, ())),
            (("set", ((), "a.com", False, "/shop", "n")), ("prefix", ())))

    def test_jars(self):
        jar = Jar(("com",))
        request = Request((address_of("https://www.a.com/x/y"),))
        self.assertEqual((jar.receive(request, "b=2; Path=/", 5), jar.receive(request, "a=1; Max-Age=10", 5),
                          jar.receive(request, "b=3; Path=/", 5)), ("set", "set", "changed"))
        self.assertEqual((header(jar.look(request, 6)), jar.log[2]),
                         ("a=1; b=3", (3, 5, "changed", ((), "www.a.com", True, "/", "b"))))

    def test_ledgers(self):
        one, other, page = Jar(()), Jar(()), Request((("https", "a.com", "/"),))
        self.assertEqual((one.receive(page, "n=1; Max-Age=90", 5), other.receive(page, "n=2; Max-Age=9", 6),
                          one.look(page, 7)), ("set", "set", (("n", "1"),)))
        both = ledger_of(one, "phone").merged(ledger_of(other, "desk"))
        self.assertEqual((both == ledger_of(other, "desk").merged(ledger_of(one, "phone")),
                          jar_of(both, (), 8).look(page, 9)), (True, (("n", "2"),)))

    def test_futures(self):
        old, late = Crumb("n", "1", "a.com", born=(3, 7), seen=50), Crumb("m", "2", "b.com", born=(400, 9), seen=401)
        jar = Jar((), crumbs=(old, late), tick=402)
        self.assertEqual(
            jar_text(settled(jar, 500)).split("\n")[1:],
            ["crumb - a.com exact / \"n\" \"1\" - - lax 1 - 0 1 0",
             "crumb - b.com exact / \"m\" \"2\" - - default 1 - 400 2 400"])

    def test_browsers(self):
        page, picture = ("https", "a.com", "/"), ("https", "t.net", "/i")
        seen = (("new", "u=*; Secure; SameSite=None"),)
        table = ((page, ((("new", "id=*"),), None, (("picture", picture),))), (picture, (seen, None, ())))
        browser = Browser(("com", "net"), table)
        self.assertEqual((browser.visit(page, 5), browser.visit(page, 6), len(browser), browser.pages),
                         (2, 2, 4, ((0, ("https", "a.com", "/")),)))
        rows = tuple(list(browser.rows()))
        self.assertEqual((rows[1][5], groups(("com", "net"), rows, "t.net", "u"), audit(("com", "net"), rows)),
                         ((("u=2; Secure; SameSite=None", "set", ((), "t.net", True, "/", "u")),), ((2, 4),), None))

    def test_shelves(self):
        shelf, wish = (2, ((2, "a", "1"), (1, "b", "2"))), (("a", "1"), ("c", "3"), ("b", "2"))
        self.assertEqual(
            (best_row(shelf, wish), fewest(shelf, wish), check_certificate(shelf, wish, 1, certificate(shelf, wish))),
            (((0, 0), (1, 2)), 1, True))

    def test_wishes(self):
        jar, request = Jar(()), Request((address_of("https://a.example/x/y"),))
        self.assertEqual(
            (lines_for(jar, request, (("a", "1"),), 5), grant(jar, request, (("a", "1"), ("b", "2")), 5),
             jar.look(request, 6)),
            (("a=1; Path=/; Secure",), 2, (("a", "1"), ("b", "2"))))


if __name__ == "__main__":
    unittest.main()
