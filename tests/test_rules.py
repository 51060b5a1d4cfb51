"""[23], [24] and [25]: lines that are refused, the crumbs that lines make, and the rules for sending."""

import itertools
import unittest

from crumbjar.crumbs import Crumb, is_crumb, remade
from crumbjar.dates import date_text
from crumbjar.errors import BadCrumb, BadLine, BadRequest, BadRules, BadTick
from crumbjar.requests import Request, partition_of
from crumbjar.rules import broken_rules, crumb_of, line_paper
from crumbjar.words import LAST_TICK
from kinds import OTHERS, not_texts

RULES = ("com", "net", "co.uk", "far.a.com")
PAGE = ("https", "www.a.com", "/shop/cart")
PLAIN = ("http", "www.a.com", "/shop/cart")
NEWS = ("https", "news.net")
AGE = 34560000
ROOM = LAST_TICK - 10

SAFE = Request((PAGE,))
UNSAFE = Request((PLAIN,))
SCRIPT = Request((PAGE,), by="script")
FRAMED = Request((PAGE,), frames=(NEWS,))
NEAR_FRAMED = Request((PAGE,), frames=(("https", "a.com"),))
FAR_CHAIN = Request((("https", "news.net", "/"), PAGE), frames=(("https", "a.com"),))


def at(text, **settings):
    """A request for the address with this scheme, host and path."""
    scheme, _, rest = text.partition("://")
    host, _, path = rest.partition("/")
    return Request(((scheme, host, "/" + path),), **settings)


class PaperCase(unittest.TestCase):
    def check(self, request, text, word, key=(), *, crumbs=(), tick=5, rules=RULES):
        self.assertEqual(line_paper(rules, request, text, tick, crumbs), (word, key), (text, word))
        number = 3
        crumb = crumb_of(rules, request, text, tick, number)
        if word == "gone" or word not in ("set", "covers", "kept"):
            self.assertIsNone(crumb)
        if word == "set":
            self.assertEqual((crumb.key, crumb.born, crumb.seen), (key, (tick, number), tick))
            self.assertIs(is_crumb(rules, crumb), True)

    def check_set(self, request, text, host, is_exact=True, path="/shop", name="n", space=(), **settings):
        self.check(request, text, "set", (space, host, is_exact, path, name), **settings)


class RefusedTest(PaperCase):
    def test_line(self):
        for text in ("", " ", "=", ";Secure", "a\nb=c", "n=v; Path=/\n", "n=" + "v" * 4096):
            self.check(SAFE, text, "line")
        self.check_set(SAFE, "n=" + "v" * 4095, "www.a.com")
        self.check_set(SAFE, "n", "www.a.com", name="")

    def test_domain(self):
        for domain in ("b.com", "x.www.a.com", "ww.a.com", "w.a.com", "1.2.3.4"):
            self.check(SAFE, "n=v; Domain=" + domain, "domain")
        for domain in ("a.com", ".A.com", "www.a.com"):
            self.check_set(SAFE, "n=v; Domain=" + domain, domain.strip(".").lower(), False)
        # What tells no domain has a defect, and counts as nothing written.
        self.check_set(SAFE, "n=v; Domain=a..com", "www.a.com")
        self.check(at("http://1.2.3.4/"), "n=v; Domain=2.3.4", "set", ((), "1.2.3.4", True, "/", "n"))
        self.check(at("http://1.2.3.4/"), "n=v; Domain=5.2.3.4", "domain")

    def test_public(self):
        self.check(SAFE, "n=v; Domain=com", "public")
        self.check(at("https://x.co.uk/"), "n=v; Domain=co.uk", "public")
        self.check(at("https://x.co.uk/"), "n=v; Domain=uk", "public")
        self.check_set(at("https://x.co.uk/"), "n=v; Domain=x.co.uk", "x.co.uk", False, "/")
        self.check_set(at("https://co.uk/"), "n=v; Domain=co.uk", "co.uk", True, "/")
        self.check_set(at("https://com/"), "n=v; Domain=com", "com", True, "/")
        self.check_set(at("https://far.a.com/"), "n=v; Domain=far.a.com", "far.a.com", True, "/")

    def test_family(self):
        self.check(at("https://far.a.com/"), "n=v; Domain=a.com", "family")
        self.check(at("https://x.far.a.com/"), "n=v; Domain=a.com", "family")
        self.check_set(at("https://x.far.a.com/"), "n=v; Domain=x.far.a.com", "x.far.a.com", False, "/")
        self.check_set(at("https://x.y.a.com/"), "n=v; Domain=y.a.com", "y.a.com", False, "/")

    def test_secure(self):
        self.check(UNSAFE, "n=v; Secure", "secure")
        self.check_set(SAFE, "n=v; Secure", "www.a.com")
        self.check_set(at("http://localhost/"), "n=v; Secure", "localhost", path="/")
        self.check_set(at("http://x.localhost/"), "n=v; Secure", "x.localhost", path="/")
        # Only the target counts, not the chain.
        self.check(Request((PAGE, PLAIN)), "n=v; Secure", "secure")
        self.check_set(Request((PLAIN, PAGE)), "n=v; Secure", "www.a.com")

    def test_hidden(self):
        self.check(SCRIPT, "n=v; HttpOnly", "hidden")
        self.check_set(SCRIPT, "n=v", "www.a.com")
        self.check_set(SAFE, "n=v; HttpOnly", "www.a.com")

    def test_cross(self):
        for request in (FRAMED, FAR_CHAIN, Request((PAGE,), frames=(NEWS,), by="script")):
            for same in ("", "; SameSite=Lax", "; SameSite=Strict", "; SameSite=x"):
                self.check(request, "n=v" + same, "cross")
            self.check_set(request, "n=v; SameSite=None; Secure", "www.a.com")
        for request in (NEAR_FRAMED, Request((PAGE,), starter=NEWS), Request((PAGE,), starter=NEWS, is_reading=False)):
            for same in ("", "; SameSite=Lax", "; SameSite=Strict"):
                self.check_set(request, "n=v" + same, "www.a.com")

    def test_none(self):
        self.check(SAFE, "n=v; SameSite=None", "none")
        self.check(UNSAFE, "n=v; SameSite=None", "none")
        self.check(FRAMED, "n=v; SameSite=None", "none")
        self.check_set(SAFE, "n=v; SameSite=None; Secure", "www.a.com")

    def test_prefix(self):
        for name in ("__Secure-n", "__secure-", "__SECURE-x"):
            self.check(SAFE, name + "=v", "prefix")
            self.check_set(SAFE, name + "=v; Secure; Domain=a.com", "a.com", False, name=name)
        self.check(SAFE, "__Secure-n", "prefix")
        self.check(SAFE, "=__Secure-n", "prefix")
        self.check_set(SAFE, "__Secure-n; Secure", "www.a.com", name="")
        self.check_set(SAFE, "n=__Secure-n", "www.a.com")
        for name in ("__Host-n", "__host-", "__HOST-x"):
            for rest in ("", "; Secure", "; Path=/", "; Secure; Path=/x", "; Secure; Path=/; Domain=www.a.com"):
                self.check(SAFE, name + "=v" + rest, "prefix")
            self.check_set(SAFE, name + "=v; Secure; Path=/", "www.a.com", path="/", name=name)
        self.check(SAFE, "__Host-n; Secure", "prefix")
        self.check_set(SAFE, "__Host-n; Secure; Path=/", "www.a.com", path="/", name="")
        # The path is to be written, even if it is the default one.
        self.check(at("https://a.com/"), "__Host-n=v; Secure", "prefix")
        self.check(at("https://1.2.3.4/"), "__Host-n=v; Secure; Path=/; Domain=1.2.3.4", "prefix")

    def test_partition(self):
        self.check(SAFE, "n=v; Partitioned", "partition")
        self.check(UNSAFE, "n=v; Partitioned", "partition")
        self.check_set(SAFE, "n=v; Partitioned; Secure", "www.a.com", space=(("https", "a.com"), False))
        self.check_set(FRAMED, "n=v; Partitioned; Secure; SameSite=None", "www.a.com", space=(NEWS, True))
        self.check_set(FAR_CHAIN, "n=v; Partitioned; Secure; SameSite=None", "www.a.com",
                       space=(("https", "a.com"), False))
        self.check_set(at("http://x.localhost/"), "n=v; Partitioned; Secure", "x.localhost", path="/",
                       space=(("http", "x.localhost"), False))

    def test_the_first_rule_that_is_broken(self):
        for request, text, word in (
            (UNSAFE, "=; Domain=b.com; Secure", "line"),
            (UNSAFE, "n=v; Domain=net; Secure", "domain"),
            (UNSAFE, "n=v; Domain=com; Secure; SameSite=None", "public"),
            (at("https://x.co.uk/"), "n=v; Domain=uk; SameSite=None", "public"),
            (at("http://x.far.a.com/"), "n=v; Domain=a.com; Secure", "family"),
            (Request((PLAIN,), by="script"), "n=v; Secure; HttpOnly", "secure"),
            (Request((PLAIN,), frames=(NEWS,)), "n=v; Secure; SameSite=Lax", "secure"),
            (Request((PAGE,), frames=(NEWS,), by="script"), "n=v; HttpOnly", "hidden"),
            (SCRIPT, "n=v; HttpOnly; SameSite=None", "hidden"),
            (FRAMED, "__Secure-n=v", "cross"),
            (FRAMED, "n=v; Partitioned", "cross"),
            (SAFE, "__Secure-n=v; SameSite=None", "none"),
            (SAFE, "n=v; SameSite=None; Partitioned", "none"),
            (SAFE, "__Host-n=v; Partitioned", "prefix"),
        ):
            self.check(request, text, word)
        secure = Crumb("n", "1", "a.com", is_exact=False, is_secure=True)
        self.check(UNSAFE, "n=v; Partitioned", "partition", crumbs=(secure,))
        hidden = Crumb("n", "1", "www.a.com", path="/shop", is_hidden=True, is_secure=True)
        self.check(Request((PLAIN,), by="script"), "n=v", "covers", hidden.key, crumbs=(hidden,))


class CoversTest(PaperCase):
    def covers(self, text, request=UNSAFE, **settings):
        crumb = Crumb(**{"name": "n", "value": "1", "host": "www.a.com", "is_secure": True, **settings})
        self.assertIs(is_crumb(RULES, crumb), True)
        self.check(request, text, "covers", crumb.key, crumbs=(crumb,))

    def free(self, text, key, request=UNSAFE, **settings):
        crumb = Crumb(**{"name": "n", "value": "1", "host": "www.a.com", "is_secure": True, **settings})
        self.check(request, text, "set", key, crumbs=(crumb,))

    def test_covers(self):
        here = ((), "www.a.com", True, "/shop", "n")
        self.covers("n=v")
        self.covers("n=v; Max-Age=0")
        self.covers("n=", request=Request((PLAIN,), by="script"))
        self.covers("n=v", path="/shop")
        self.covers("n=v; Path=/shop/x", path="/shop")
        self.free("n=v", here, path="/shop/cart")
        self.free("n=v", here, path="/sho")
        self.free("n=v; Path=/", ((), "www.a.com", True, "/", "n"), path="/shop")
        self.free("n=v", here, name="m")
        self.free("n=v", here, is_secure=False)
        self.free("n=v", here, request=SAFE)
        self.free("n=v", ((), "localhost", True, "/", "n"), request=at("http://localhost/"), host="localhost")

    def test_hosts(self):
        self.covers("n=v", host="a.com", is_exact=False)
        self.covers("n=v", host="a.com")
        self.covers("n=v; Domain=a.com", host="a.com")
        self.covers("n=v; Domain=a.com", host="x.www.a.com")
        self.covers("n=v", host="x.www.a.com", is_exact=False)
        self.covers("n=v; Domain=www.a.com", host="a.com")
        here = ((), "www.a.com", True, "/shop", "n")
        self.free("n=v", here, host="shop.a.com", is_exact=False)
        self.free("n=v", here, host="b.com", is_exact=False)
        self.free("n=v", here, host="com")
        self.covers("n=v; Domain=a.com", host="shop.a.com")

    def test_families(self):
        # far.a.com is below a.com, but of another family.
        self.free("n=v; Domain=a.com", ((), "a.com", False, "/shop", "n"), host="far.a.com")
        self.free("n=v; Domain=a.com", ((), "a.com", False, "/shop", "n"), host="x.far.a.com", is_exact=False)
        self.free("n=v", ((), "x.far.a.com", True, "/", "n"), request=at("http://x.far.a.com/"), host="a.com", is_exact=False)

    def test_partitions_do_not_count(self):
        here = ((), "www.a.com", True, "/shop", "n")
        self.free("n=v", here, space=(("https", "a.com"), False))
        self.free("n=v", here, same="none", space=(("http", "a.com"), True))

    def test_what_has_ended_is_not_looked_at(self):
        crumb = Crumb("n", "1", "www.a.com", is_secure=True, ends=9)
        key = ((), "www.a.com", True, "/shop", "n")
        self.check(UNSAFE, "n=v", "covers", crumb.key, crumbs=(crumb,), tick=8)
        self.check(UNSAFE, "n=v", "set", key, crumbs=(crumb,), tick=9)

    def test_the_least_key(self):
        crumbs = tuple(Crumb("n", "1", host, is_exact=is_exact, path=path, is_secure=True)
                       for host in ("a.com", "www.a.com") for is_exact in (True, False) for path in ("/", "/shop"))
        for order in (crumbs, crumbs[::-1], crumbs[3:] + crumbs[:3]):
            self.check(UNSAFE, "n=v", "covers", ((), "a.com", False, "/", "n"), crumbs=order)
        below = Crumb("n", "1", "x.www.a.com", is_secure=True)
        self.check(UNSAFE, "n=v", "covers", ((), "www.a.com", True, "/shop", "n"), crumbs=(below, crumbs[5]))


class KeptTest(PaperCase):
    def test_kept(self):
        hidden = Crumb("n", "1", "www.a.com", path="/shop", is_hidden=True)
        self.check(SCRIPT, "n=v", "kept", hidden.key, crumbs=(hidden,))
        self.check(SCRIPT, "n=v; Max-Age=0", "kept", hidden.key, crumbs=(Crumb("a", "b", "com"), hidden))
        self.check(SAFE, "n=v", "set", hidden.key, crumbs=(hidden,))
        self.check(SCRIPT, "n=v", "set", hidden.key, crumbs=(remade(hidden, is_hidden=False),))

    def test_other_keys(self):
        key = ((), "www.a.com", True, "/shop", "n")
        for settings in ({"name": "m"}, {"host": "a.com"}, {"is_exact": False}, {"path": "/"},
                         {"is_secure": True, "space": (("https", "a.com"), False)}):
            crumb = Crumb(**{"name": "n", "value": "1", "host": "www.a.com", "path": "/shop", "is_hidden": True, **settings})
            self.check(SCRIPT, "n=v", "set", key, crumbs=(crumb,))

    def test_partitions(self):
        space = (("https", "a.com"), False)
        hidden = Crumb("n", "1", "www.a.com", path="/shop", is_hidden=True, is_secure=True, space=space)
        self.check(SCRIPT, "n=v; Secure; Partitioned", "kept", hidden.key, crumbs=(hidden,))

    def test_what_has_ended_is_not_looked_at(self):
        hidden = Crumb("n", "1", "www.a.com", path="/shop", is_hidden=True, ends=9)
        self.check(SCRIPT, "n=v", "kept", hidden.key, crumbs=(hidden,), tick=8)
        self.check(SCRIPT, "n=v", "set", hidden.key, crumbs=(hidden,), tick=9)


class MadeTest(unittest.TestCase):
    def made(self, request, text, tick=5, number=3, rules=RULES):
        return crumb_of(rules, request, text, tick, number)

    def test_all_settings(self):
        self.assertEqual(self.made(SAFE, "n=v"), Crumb("n", "v", "www.a.com", path="/shop", born=(5, 3), seen=5))
        text = "n=v; Max-Age=60; Domain=a.com; Path=/x; Secure; HttpOnly; SameSite=None; Partitioned; Priority=High"
        self.assertEqual(self.made(SAFE, text), Crumb(
            "n", "v", "a.com", is_exact=False, path="/x", is_secure=True, is_hidden=True, same="none", priority=2,
            space=(("https", "a.com"), False), born=(5, 3), seen=5, ends=65))
        made = crumb_of(rules=RULES, request=SAFE, text="=v; Priority=Low; SameSite=Strict", tick=7, number=0)
        self.assertEqual(made, Crumb("", "v", "www.a.com", path="/shop", same="strict", priority=0, born=(7, 0), seen=7))
        self.assertEqual(self.made(SAFE, "n=v; Priority=Medium; SameSite=Lax").same, "lax")

    def test_paths(self):
        for path, expected in (("/", "/"), ("/a", "/"), ("/a/b", "/a"), ("/a/b/", "/a/b"), ("//", "/")):
            self.assertEqual(self.made(Request((("https", "a.com", path),)), "n=v").path, expected)
        self.assertEqual(self.made(SAFE, "n=v; Path=x").path, "/shop")
        self.assertEqual(self.made(SAFE, "n=v; Path=/other").path, "/other")

    def test_the_target_counts(self):
        request = Request((PAGE, ("https", "news.net", "/a/b")))
        self.assertEqual(self.made(request, "n=v"), Crumb("n", "v", "news.net", path="/a", born=(5, 3), seen=5))

    def test_reach(self):
        for target, domain, reach in (
            ("https://www.a.com/", "", ("www.a.com", True)),
            ("https://www.a.com/", "www.a.com", ("www.a.com", False)),
            ("https://www.a.com/", "a.com", ("a.com", False)),
            ("https://com/", "com", ("com", True)),
            ("https://co.uk/", "co.uk", ("co.uk", True)),
            ("https://1.2.3.4/", "1.2.3.4", ("1.2.3.4", True)),
            ("https://1.2.3.4/", "", ("1.2.3.4", True)),
        ):
            crumb = self.made(at(target), "n=v" + ("; Domain=" + domain if domain else ""))
            self.assertEqual((crumb.host, crumb.is_exact), reach)

    def test_ends(self):
        day = 86400
        for text, tick, ends in (
            ("n=v", 5, None),
            ("n=v; Max-Age=1", 5, 6),
            ("n=v; Max-Age=34560000", 5, 5 + AGE),
            ("n=v; Max-Age=99999999", 5, 5 + AGE),
            ("n=v; Expires=" + date_text(day), 5, day),
            ("n=v; Expires=" + date_text(day), day - 1, day),
            ("n=v; Expires=" + date_text(5 + AGE), 5, 5 + AGE),
            ("n=v; Expires=" + date_text(6 + AGE), 5, 5 + AGE),
            ("n=v; Expires=" + date_text(LAST_TICK), 5, 5 + AGE),
            ("n=v; Max-Age=1; Expires=" + date_text(day), 5, 6),
            ("n=v; Expires=" + date_text(0) + "; Max-Age=1", 5, 6),
            ("n=v; Max-Age=x; Expires=" + date_text(day), 5, day),
            ("n=v; Expires=" + date_text(LAST_TICK), ROOM, LAST_TICK),
            ("n=v; Max-Age=60", ROOM, LAST_TICK),
            ("n=v; Max-Age=9", ROOM, LAST_TICK - 1),
            ("n=v; Max-Age=60", LAST_TICK - 1, LAST_TICK),
            ("n=v", LAST_TICK, None),
        ):
            crumb = self.made(SAFE, text, tick)
            self.assertEqual((crumb.ends, crumb.seen, crumb.born), (ends, tick, (tick, 3)), text)
            self.assertEqual(line_paper(RULES, SAFE, text, tick, ()), ("set", crumb.key))

    def test_what_would_have_ended(self):
        day = 86400
        for text, tick in (
            ("n=v; Max-Age=0", 5), ("n=v; Max-Age=-1", 5), ("n=v; Expires=" + date_text(0), 0),
            ("n=v; Expires=" + date_text(day), day), ("n=v; Expires=" + date_text(day), day + 1),
            ("n=v; Max-Age=0; Expires=" + date_text(day), 5), ("n=v; Max-Age=60", LAST_TICK),
            ("n=v; Expires=" + date_text(LAST_TICK), LAST_TICK), ("n=v; Max-Age=0", LAST_TICK),
        ):
            self.assertIsNone(self.made(SAFE, text, tick))
            self.assertEqual(line_paper(RULES, SAFE, text, tick, ()), ("gone", ((), "www.a.com", True, "/shop", "n")))

    def test_whatever_crumbs_there_are(self):
        # covers and kept are not asked for.
        self.assertEqual(self.made(UNSAFE, "n=v").host, "www.a.com")
        self.assertEqual(self.made(SCRIPT, "n=v").key, ((), "www.a.com", True, "/shop", "n"))

    def test_what_is_made_is_a_crumb_under_the_rules(self):
        hosts = ("com", "a.com", "www.a.com", "far.a.com", "x.far.a.com", "uk", "co.uk", "x.co.uk", "localhost", "x.localhost",
                 "1.2.3.4")
        texts = ["n=v" + "".join(parts) for parts in itertools.product(
            ("", "; Domain=a.com", "; Domain=x.co.uk", "; Domain=com", "; Domain=x.localhost", "; Domain=1.2.3.4"),
            ("", "; Secure"), ("", "; SameSite=None", "; SameSite=Lax"), ("", "; Partitioned"))]
        many = 0
        for scheme, host, text in itertools.product(("http", "https"), hosts, texts):
            for frames in ((), (NEWS,), ((scheme, host),), (("http", "a.com"), ("https", "a.com"))):
                request = Request(((scheme, host, "/"),), frames=frames)
                crumb = self.made(request, text)
                word = line_paper(RULES, request, text, 5, ())[0]
                self.assertIs(crumb is None, word != "set")
                if crumb is not None:
                    many += 1
                    self.assertIs(is_crumb(RULES, crumb), True)
                    self.assertEqual(crumb.space, partition_of(RULES, request) if "Partitioned" in text else None)
        self.assertGreater(many, 200)


class SentTest(unittest.TestCase):
    def check(self, words, request, tick=500, rules=RULES, **settings):
        crumb = Crumb(**{"name": "n", "value": "v", "host": "www.a.com", "same": "lax", **settings})
        self.assertEqual(broken_rules(rules, crumb, request, tick), tuple(words))

    def test_ended(self):
        for tick, words in ((8, ()), (9, ("ended",)), (10, ("ended",)), (LAST_TICK, ("ended",))):
            self.check(words, SAFE, tick, ends=9)
        self.check((), SAFE, LAST_TICK)
        # A tick in front of the birth is no rule.
        self.check((), SAFE, 0, born=(7, 1), seen=8)

    def test_partition(self):
        near, far = (("https", "a.com"), False), (NEWS, True)
        secure = {"is_secure": True, "same": "none"}
        self.check((), SAFE, space=near, **secure)
        self.check((), NEAR_FRAMED, space=near, **secure)
        self.check((), FAR_CHAIN, space=near, **secure)
        self.check((), FRAMED, space=far, **secure)
        self.check((), FRAMED, **secure)
        self.check(("partition",), FRAMED, space=near, **secure)
        self.check(("partition",), SAFE, space=far, **secure)
        self.check(("partition",), SAFE, space=(("https", "a.com"), True), **secure)
        self.check(("partition",), FRAMED, space=(("http", "news.net"), True), **secure)
        self.check((), Request((PAGE,), frames=(("https", "a.com"), NEWS)), space=(("https", "a.com"), True), **secure)

    def test_host(self):
        for host, is_exact, target, words in (
            ("a.com", True, "a.com", ()), ("a.com", True, "www.a.com", ("host",)), ("a.com", False, "www.a.com", ()),
            ("a.com", False, "x.y.a.com", ()), ("a.com", False, "a.com", ()), ("www.a.com", False, "a.com", ("host",)),
            ("a.com", False, "ba.com", ("host",)), ("a.com", False, "far.a.com", ("host",)),
            ("a.com", False, "x.far.a.com", ("host",)), ("far.a.com", True, "far.a.com", ()),
            ("com", True, "a.com", ("host",)), ("1.2.3.4", True, "1.2.3.4", ()), ("1.2.3.4", True, "5.2.3.4", ("host",)),
        ):
            self.check(words, at(f"https://{target}/"), host=host, is_exact=is_exact)
        self.check((), at("https://far.a.com/"), rules=("com",), host="a.com", is_exact=False)

    def test_path(self):
        for path, target, words in (("/", "/x", ()), ("/x", "/x", ()), ("/x", "/x/y", ()), ("/x/", "/x/y", ()),
                                    ("/x", "/xy", ("path",)), ("/x/", "/x", ("path",)), ("/x", "/", ("path",)),
                                    ("/X", "/x", ("path",))):
            self.check(words, at("https://www.a.com" + target), path=path)

    def test_secure(self):
        self.check((), SAFE, is_secure=True)
        self.check(("secure",), UNSAFE, is_secure=True)
        self.check((), UNSAFE)
        self.check((), at("http://localhost/"), is_secure=True, host="localhost")
        self.check(("secure",), Request((PAGE, PLAIN), is_reading=True), is_secure=True)

    def test_hidden(self):
        self.check(("hidden",), SCRIPT, is_hidden=True)
        self.check((), SCRIPT)
        self.check((), SAFE, is_hidden=True)

    def test_same(self):
        linked = Request((PAGE,), starter=NEWS)
        posted = Request((PAGE,), starter=NEWS, is_reading=False)
        scripted = Request((PAGE,), frames=(NEWS,), by="script")
        for request, kept in (
            (SAFE, ("strict", "lax", "default", "none")), (NEAR_FRAMED, ("strict", "lax", "default", "none")),
            (Request((PAGE,), is_reading=False), ("strict", "lax", "default", "none")),
            (SCRIPT, ("strict", "lax", "default", "none")), (linked, ("lax", "default", "none")),
            (posted, ("none",)), (FRAMED, ("none",)), (FAR_CHAIN, ("none",)), (scripted, ("none",)),
        ):
            for same in ("strict", "lax", "default", "none"):
                self.check(() if same in kept else ("same",), request, same=same, is_secure=True)

    def test_young_ones(self):
        posted = Request((PAGE,), starter=NEWS, is_reading=False)
        for tick, words in ((0, ()), (100, ()), (219, ()), (220, ("same",)), (221, ("same",))):
            self.check(words, posted, tick, same="default", born=(100, 1), seen=130)
            for same in ("lax", "strict"):
                self.check(("same",), posted, tick, same=same, born=(100, 1), seen=130)
            self.check(("same",), FRAMED, tick, same="default", born=(100, 1), seen=130)
            self.check(("same",), FAR_CHAIN, tick, same="default", born=(100, 1), seen=130)
        self.check((), posted, LAST_TICK, same="default", born=(LAST_TICK - 119, 1), seen=LAST_TICK)
        self.check(("same",), posted, LAST_TICK, same="default", born=(LAST_TICK - 120, 1), seen=LAST_TICK)

    def test_words_in_order(self):
        request = Request((("http", "b.net", "/"),), frames=(NEWS,), by="script")
        crumb = Crumb("n", "v", "www.a.com", path="/x", is_secure=True, is_hidden=True, same="strict",
                      space=(("https", "a.com"), False), ends=9)
        words = ("ended", "partition", "host", "path", "secure", "hidden", "same")
        self.assertEqual(broken_rules(RULES, crumb, request, 9), words)
        self.assertEqual(broken_rules(rules=RULES, crumb=crumb, request=request, tick=8), words[1:])


class FactsTest(unittest.TestCase):
    def test_sent_to_the_family_and_to_safe_targets(self):
        hosts = ("com", "a.com", "www.a.com", "far.a.com", "x.far.a.com", "b.com", "localhost", "1.2.3.4")
        crumbs = [Crumb("n", "v", host, is_exact=is_exact, is_secure=is_secure, same="none" if is_secure else "default")
                  for host in hosts for is_exact in (True, False) for is_secure in (True, False)
                  if is_exact or host not in ("com", "far.a.com", "localhost", "1.2.3.4")]
        families = {"com": 0, "a.com": 1, "www.a.com": 1, "far.a.com": 2, "x.far.a.com": 3, "b.com": 4, "localhost": 5,
                    "1.2.3.4": 6}
        for crumb, scheme, host in itertools.product(crumbs, ("http", "https"), hosts):
            for frames in ((), (NEWS,)):
                if broken_rules(RULES, crumb, Request(((scheme, host, "/"),), frames=frames), 5) == ():
                    self.assertEqual(families[host], families[crumb.host])
                    self.assertTrue(not crumb.is_secure or scheme == "https" or host == "localhost")
                    self.assertTrue(frames == () or crumb.same == "none")

    def test_no_unsafe_line_meets_a_secure_crumb(self):
        secure = [Crumb("n", "v", host, is_exact=is_exact, path=path, is_secure=True)
                  for host in ("a.com", "www.a.com", "x.www.a.com") for is_exact in (True, False) for path in ("/", "/shop", "/x")]
        for crumb in secure:
            for scheme, host, path in itertools.product(("http",), ("a.com", "www.a.com", "x.www.a.com"), ("/", "/shop/y")):
                request = Request(((scheme, host, path),))
                for domain, own in itertools.product(("", "; Domain=a.com", "; Domain=www.a.com"),
                                                     ("", "; Path=/", "; Path=/shop", "; Path=/x")):
                    for age in ("", "; Max-Age=0"):
                        word, key = line_paper(RULES, request, "n=w" + domain + own + age, 5, (crumb,))
                        self.assertTrue(word not in ("set", "gone") or key != crumb.key)
                        made = crumb_of(RULES, request, "n=w" + domain + own + age, 5, 1)
                        self.assertTrue(made is None or not made.is_secure)


class ErrorsTest(unittest.TestCase):
    good = {"rules": RULES, "request": SAFE, "text": "n=v", "tick": 5, "crumbs": (), "number": 1,
            "crumb": Crumb("n", "v", "a.com")}
    # Values that are wrong for each parameter, and the error with its field.
    wrong = {
        "rules": [(value, BadRules, "index", None) for value in (None, [], "com", 5)]
        + [(("com", "com"), BadRules, "index", 1), (("com", "-"), BadRules, "index", 1)],
        "request": [(value, BadRequest, "field", "request") for value in OTHERS + (PAGE, (PAGE,))],
        "text": [(value, BadLine, "field", "text") for value in not_texts()],
        "tick": [(value, BadTick, "given", value) for value in (None, True, -1, LAST_TICK + 1, "5", 1.5)],
        "crumbs": [(value, BadCrumb, "field", "crumbs")
                   for value in OTHERS + ([], [Crumb("n", "v", "a.com")], (Crumb("n", "v", "a.com"), None),
                                          (Crumb("n", "v", "com", is_exact=False),), Crumb("n", "v", "a.com")) if value != ()],
        "number": [(value, BadCrumb, "field", "born") for value in (None, True, False, -1, "1", 1.0)],
        "crumb": [(value, BadCrumb, "field", "crumb") for value in OTHERS + (Crumb("n", "v", "com", is_exact=False),)],
    }

    def check(self, function, names):
        self.assertIsNotNone(function(**{name: self.good[name] for name in names}))
        for place, name in enumerate(names):
            for value, kind, field, expected in self.wrong[name]:
                ahead = [self.good[earlier] for earlier in names[:place]]
                for behind in ([self.good[later] for later in names[place + 1:]],
                               [self.wrong[later][0][0] for later in names[place + 1:]]):
                    with self.assertRaises(kind) as caught:
                        function(*ahead, value, *behind)
                    self.assertIs(type(caught.exception), kind)
                    self.assertEqual(getattr(caught.exception, field), expected)

    def test_line_paper(self):
        self.check(line_paper, ("rules", "request", "text", "tick", "crumbs"))

    def test_crumb_of(self):
        self.check(crumb_of, ("rules", "request", "text", "tick", "number"))

    def test_broken_rules(self):
        self.check(broken_rules, ("rules", "crumb", "request", "tick"))

    def test_the_number_is_looked_at_even_where_there_is_no_crumb(self):
        with self.assertRaises(BadCrumb):
            crumb_of(RULES, SAFE, "", 5, -1)
        self.assertIsNone(crumb_of(RULES, SAFE, "", 5, 0))

    def test_crumbs_are_looked_at_even_if_the_line_is_none(self):
        with self.assertRaises(BadCrumb):
            line_paper(RULES, SAFE, "", 5, (None,))

    def test_equal_keys_may_be_among_the_crumbs(self):
        crumb = Crumb("n", "v", "a.com")
        self.assertEqual(line_paper(RULES, SAFE, "", 5, (crumb, crumb)), ("line", ()))


if __name__ == "__main__":
    unittest.main()
