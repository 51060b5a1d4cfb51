"""[26]: a request for each crumb, and a request that sends one crumb and not another one."""

import itertools
import unittest

from crumbjar.crumbs import Crumb, is_crumb, remade
from crumbjar.errors import BadCrumb, BadRules, BadTick
from crumbjar.hosts import is_host
from crumbjar.papers import only_first, request_for
from crumbjar.requests import Request
from crumbjar.rules import broken_rules
from crumbjar.words import LAST_TICK
from kinds import OTHERS

RULES = ("com", "x.a.com", "*.b.com", "!c.b.com")
NEWS = ("https", "news")
TICK = 200
SPACES = (None, (("https", "a.com"), False), (("https", "a.com"), True), (("https", "news"), True), (("http", "a.com"), True))
CRUMB = Crumb("n", "v", "a.com")


def crumbs_for_pairs():
    """Crumbs of many kinds, those alone that these rules allow."""
    found = []
    for host, is_exact, path, is_secure, is_hidden, same, space, born in itertools.product(
        ("a.com", "w.a.com", "x.a.com"), (True, False), ("/", "/p"), (True, False), (True, False),
        ("strict", "lax", "default", "none"), SPACES, (0, TICK - 119),
    ):
        if (born and same != "default") or (host != "a.com" and (is_hidden or born)) or (path == "/p" and is_hidden):
            continue
        try:
            crumb = Crumb("n", "v", host, is_exact=is_exact, path=path, is_secure=is_secure, is_hidden=is_hidden,
                          same=same, space=space, born=(born, 1), seen=TICK)
        except BadCrumb:
            continue
        if is_crumb(RULES, crumb):
            found.append(crumb)
    return found


def many_requests():
    """Requests of all kinds to a few targets."""
    here, plain = ("https", "a.com"), ("http", "a.com")
    for scheme, host, path in itertools.product(("https", "http"), ("a.com", "w.a.com", "y.w.a.com", "x.a.com"), ("/", "/p")):
        target = (scheme, host, path)
        for starter, is_reading in itertools.product((None, NEWS), (True, False)):
            yield Request((target,), starter=starter, is_reading=is_reading)
        yield Request((target,), by="script")
        yield Request((NEWS + ("/",), target), frames=(target[:2],))
        for frames in ((here,), (plain,), (NEWS,), (here, NEWS), (plain, NEWS), (("https", "other"),)):
            yield Request((target,), frames=frames)
            yield Request((target,), frames=frames, by="script")


class RequestForTest(unittest.TestCase):
    def check(self, rules, crumb, tick=TICK):
        request = request_for(rules, crumb, tick)
        self.assertIsInstance(request, Request)
        self.assertEqual(broken_rules(rules, crumb, request, tick), ())

    def test_each_crumb_has_one(self):
        crumbs = crumbs_for_pairs()
        self.assertGreater(len(crumbs), 100)
        for crumb in crumbs:
            self.check(RULES, crumb)

    def test_edges(self):
        for crumb in (
            Crumb("n", "v", "1.2.3.4", is_secure=True, same="none", space=(("https", "1.2.3.4"), True)),
            Crumb("n", "v", "localhost", is_secure=True, space=(("http", "localhost"), False)),
            Crumb("n", "v", "localhost", is_secure=True, same="none", space=(("http", "localhost"), True)),
            Crumb("n", "v", "x.y.localhost", is_secure=True, is_exact=False, space=(("http", "y.localhost"), False)),
            Crumb("n", "v", "com", path="/" + "p" * 199, is_hidden=True, same="strict"),
            Crumb("n", "v", "a", same="none", is_secure=True, space=(("https", "b"), True)),
            Crumb("n", "v", "d", same="none", is_secure=True, space=(("https", "a"), True)),
            Crumb("n", "v", ".".join(["a"] * 9 + ["com"]), is_exact=False),
            Crumb("n", "v", "x.b.com", is_secure=True, space=(("https", "x.b.com"), False)),
        ):
            self.check(RULES, crumb)
            self.check((), crumb) if crumb.host != "x.b.com" else None
        self.check((), Crumb("n", "v", "x.b.com", is_exact=False), tick=0)

    def test_ends(self):
        crumb = Crumb("n", "v", "a.com", seen=5, ends=9)
        self.check(RULES, crumb, 5)
        self.check(RULES, crumb, 8)
        self.check(RULES, CRUMB, LAST_TICK)
        for tick in (9, 10, LAST_TICK):
            self.assertIsNone(request_for(RULES, crumb, tick))
        self.assertIsNone(request_for(rules=RULES, crumb=crumb, tick=9))


class OnlyFirstTest(unittest.TestCase):
    def check(self, crumb, other, exists=True, rules=RULES, tick=TICK):
        request = only_first(rules, crumb, other, tick)
        if exists:
            self.assertIsInstance(request, Request)
            self.assertEqual(broken_rules(rules, crumb, request, tick), ())
            self.assertNotEqual(broken_rules(rules, other, request, tick), ())
        else:
            self.assertIsNone(request)

    def test_all_pairs(self):
        crumbs = crumbs_for_pairs()
        requests = list(many_requests())
        sends = []
        for crumb in crumbs:
            sends.append(sum(1 << at for at, request in enumerate(requests) if broken_rules(RULES, crumb, request, TICK) == ()))
        nones = 0
        # Not all pairs, but each crumb with many others.
        for one, two in itertools.product(range(len(crumbs)), repeat=2):
            if (one * 7 + two * 3) % 11:
                continue
            crumb, sent, other, not_sent = crumbs[one], sends[one], crumbs[two], sends[two]
            request = only_first(RULES, crumb, other, TICK)
            if request is None:
                nones += 1
                self.assertEqual(sent & ~not_sent, 0)
            else:
                self.assertEqual(broken_rules(RULES, crumb, request, TICK), ())
                self.assertNotEqual(broken_rules(RULES, other, request, TICK), ())
        self.assertGreater(nones, 200)

    def test_one_setting(self):
        strict, lax, default, none = [Crumb("n", "v", "a.com", same=same, is_secure=True)
                                      for same in ("strict", "lax", "default", "none")]
        young = remade(default, born=(TICK - 119, 1), seen=TICK)
        old = remade(default, born=(TICK - 120, 1), seen=TICK)
        for crumb, other, exists in (
            (strict, lax, False), (lax, strict, True), (lax, default, False), (default, lax, False), (none, lax, True),
            (lax, none, False), (none, young, True), (young, lax, True), (young, old, True), (old, young, False),
            (old, lax, False), (young, none, False), (strict, strict, False),
        ):
            self.check(crumb, other, exists)
        self.check(CRUMB, remade(CRUMB, is_hidden=True))
        self.check(remade(CRUMB, is_hidden=True), CRUMB, False)
        self.check(CRUMB, remade(CRUMB, is_secure=True))
        self.check(remade(CRUMB, is_secure=True), CRUMB, False)
        self.check(CRUMB, remade(CRUMB, value="w", priority=0, seen=9, name="m"), False)

    def test_safe_without_https(self):
        here = Crumb("n", "v", "x.localhost")
        self.check(here, remade(here, is_secure=True), False)
        self.check(here, remade(here, is_secure=True, is_hidden=True))

    def test_paths(self):
        for one, two, exists in (("/", "/p", True), ("/p", "/", False), ("/p", "/p/", True), ("/p/", "/p", False),
                                 ("/p", "/pq", True), ("/pq", "/p", True), ("/p", "/p", False)):
            self.check(remade(CRUMB, path=one), remade(CRUMB, path=two), exists)

    def test_hosts(self):
        for one, two, exists in ((("a.com", False), ("a.com", True), True), (("a.com", True), ("a.com", False), False),
                                 (("w.a.com", False), ("a.com", False), False), (("a.com", False), ("w.a.com", False), True),
                                 (("w.a.com", True), ("a.com", False), False), (("w.a.com", True), ("a.com", True), True),
                                 (("x.a.com", True), ("a.com", False), True), (("a.com", False), ("x.a.com", True), True),
                                 (("w.a.com", False), ("w.a.com", True), True), (("com", True), ("a.com", False), True)):
            self.check(Crumb("n", "v", one[0], is_exact=one[1]), Crumb("n", "v", two[0], is_exact=two[1]), exists)

    def test_hosts_of_one_label(self):
        for host in ("a", "b", "c"):
            none = Crumb("n", "v", host, is_secure=True, same="none")
            for same in ("strict", "lax", "default"):
                self.check(none, remade(none, same=same))
                self.check(remade(none, same=same), none, False)
                self.check(none, remade(none, same=same), rules=())
                foreign = remade(none, space=(("https", host), True))
                self.check(foreign, remade(none, same=same))
                self.check(remade(none, same=same), foreign)

    def test_no_host_below_is_left(self):
        for host, exists in (
            (".".join(["a"] * 9 + ["com"]), False), (".".join(["a"] * 8 + ["com"]), True),
            (".".join(["a" * 20] * 4 + ["a" * 12, "com"]), False), (".".join(["a" * 20] * 4 + ["a" * 11, "com"]), False),
            (".".join(["a" * 20] * 4 + ["a" * 10, "com"]), True),
        ):
            self.assertTrue(is_host(host))
            self.check(Crumb("n", "v", host, is_exact=False), Crumb("n", "v", host), exists)

    def test_no_host_below_is_of_the_family(self):
        # All hosts below b.com are in other families.
        wide, exact = Crumb("n", "v", "b.com", is_exact=False), Crumb("n", "v", "b.com")
        self.check(wide, exact, False)
        self.check(wide, exact, False, rules=("*.b.com",))
        self.check(wide, exact, True, rules=("com",))
        self.check(remade(wide, host="c.b.com"), remade(exact, host="c.b.com"), True)

    def test_a_host_below_that_no_rule_names(self):
        rules = tuple(f"{sign}.a.com" for sign in "abcdefghijklmnopqrstuvwxyz0123")
        self.check(Crumb("n", "v", "a.com", is_exact=False), CRUMB, True, rules=rules)
        rules = tuple(f"!{sign}.a.com" for sign in "0123456789abcdefghijklmnopqrst")
        self.check(Crumb("n", "v", "a.com", is_exact=False), CRUMB, True, rules=rules)

    def test_partitions(self):
        free = Crumb("n", "v", "a.com", is_secure=True, same="none")
        spaces = [remade(free, space=space) for space in SPACES]
        for one, other in itertools.product(spaces, repeat=2):
            self.check(one, other, other.space not in (None, one.space))
        strict = remade(free, same="strict")
        near = remade(free, space=SPACES[1])
        # In its own partition alone a strict one is sent, but with another scheme it is in another partition.
        self.check(strict, near, False)
        self.check(remade(strict, is_secure=False), near, True)
        self.check(near, strict, True)
        for host in ("a", "b", "c"):
            foreign = remade(free, host=host, space=(("https", "b" if host == "a" else "a"), True))
            self.check(remade(free, host=host), foreign)
            self.check(foreign, remade(free, host=host), False)

    def test_ends(self):
        ending = Crumb("n", "v", "a.com", seen=5, ends=9)
        self.check(ending, CRUMB, False, tick=8)
        self.check(CRUMB, ending, False, tick=8)
        self.check(CRUMB, ending, True, tick=9)
        self.check(ending, CRUMB, False, tick=9)
        self.assertIsNotNone(only_first(rules=RULES, crumb=CRUMB, other=ending, tick=9))


class ErrorsTest(unittest.TestCase):
    def check(self, call, kind, field, expected):
        with self.assertRaises(kind) as caught:
            call()
        self.assertIs(type(caught.exception), kind)
        self.assertEqual(getattr(caught.exception, field), expected)

    def test_rules(self):
        for rules, index in ((None, None), ([], None), (("com", "com"), 1), (("-",), 0)):
            self.check(lambda: request_for(rules, None, None), BadRules, "index", index)
            self.check(lambda: request_for(rules, CRUMB, 5), BadRules, "index", index)
            self.check(lambda: only_first(rules, None, None, None), BadRules, "index", index)
            self.check(lambda: only_first(rules, CRUMB, CRUMB, 5), BadRules, "index", index)

    def test_crumbs(self):
        for value in OTHERS + (Crumb("n", "v", "com", is_exact=False), CRUMB.key):
            for tick in (5, None):
                self.check(lambda: request_for(RULES, value, tick), BadCrumb, "field", "crumb")
                self.check(lambda: only_first(RULES, value, CRUMB, tick), BadCrumb, "field", "crumb")
                self.check(lambda: only_first(RULES, CRUMB, value, tick), BadCrumb, "field", "crumb")

    def test_ticks(self):
        for tick in (None, True, -1, LAST_TICK + 1, "5", 5.0):
            self.check(lambda: request_for(RULES, CRUMB, tick), BadTick, "given", tick)
            self.check(lambda: only_first(RULES, CRUMB, CRUMB, tick), BadTick, "given", tick)


if __name__ == "__main__":
    unittest.main()
