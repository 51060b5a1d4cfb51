"""[22]: what a crumb can be, its key, and what is a crumb under rules."""

import itertools
import unittest

from crumbjar.crumbs import Crumb, has_ended, is_crumb, remade
from crumbjar.errors import BadCrumb, BadRules, BadTick
from crumbjar.words import LAST_TICK
from kinds import OTHERS

FIELDS = ("name", "value", "host", "is_exact", "path", "is_secure", "is_hidden", "same", "priority", "space", "born",
          "seen", "ends")
USUAL = (True, "/", False, False, "default", 1, None, (0, 0), 0, None)
MOST_AGE = 34560000
HERE = ("https", "a.com")
NEAR = (HERE, False)
FAR = (HERE, True)
RULES = ("com", "*.uk", "!city.uk")
# A crumb all of whose settings differ from the usual ones.
OTHER = {"name": "m", "value": "w", "host": "b.a.com", "is_exact": False, "path": "/x", "is_secure": True,
         "is_hidden": True, "same": "none", "priority": 2, "space": NEAR, "born": (5, 6), "seen": 7, "ends": 8}


def parts(crumb):
    """All that a crumb has."""
    return tuple(getattr(crumb, field) for field in FIELDS)


class CrumbCase(unittest.TestCase):
    def check_field(self, field, *arguments, **settings):
        with self.assertRaises(BadCrumb) as caught:
            Crumb(*arguments, **settings)
        self.assertEqual(caught.exception.field, field)

    def check_wrong(self, field, values, **settings):
        """Each value is wrong for the field, whatever stands behind it."""
        behind = {later: object() for later in FIELDS[FIELDS.index(field) + 1:]}
        ahead = {"name": "n", "value": "v", "host": "a.com", **settings}
        for value in values:
            self.check_field(field, **{**ahead, field: value})
            self.check_field(field, **{**ahead, **behind, field: value})

    def check_right(self, field, values, **settings):
        for value in values:
            crumb = Crumb(**{"name": "n", "value": "v", "host": "a.com", **settings, field: value})
            self.assertEqual(getattr(crumb, field), value)
            self.assertIs(type(getattr(crumb, field)), type(value))


class PartsTest(CrumbCase):
    def test_what_it_has(self):
        self.assertEqual(parts(Crumb("n", "v", "a.com")), ("n", "v", "a.com") + USUAL)
        self.assertEqual(parts(Crumb(**OTHER)), tuple(OTHER.values()))

    def test_settings_are_passed_by_name_only(self):
        with self.assertRaises(TypeError):
            Crumb("n", "v", "a.com", True)

    def test_names_and_values(self):
        for name, value in (("n", ""), ("", "v"), ("", "="), ("n", "a=b"), ("a b", "c\td"), ("n" * 4096, ""),
                            ("", "v" * 4096), ("n" * 4000, "v" * 96)):
            crumb = Crumb(name, value, "a.com")
            self.assertEqual((crumb.name, crumb.value), (name, value))
        for name in OTHERS + ("a=b", " a", "a\t", "a;b", "a\nb", "n" * 4097):
            if not isinstance(name, str) or name not in ("", "x", "com"):
                self.check_field("name", name, "v", "a.com")
                self.check_field("name", name, 5, 5, is_exact=5)
        for value in OTHERS + (" a", "a\t", "a;b", "a\nb", "v" * 4097):
            if not isinstance(value, str) or value not in ("", "x", "com"):
                self.check_wrong("value", (value,))
        self.check_field("value", "", "", "a.com")
        self.check_field("value", "n", "v" * 4096, "a.com")
        self.check_field("value", "", "", 5, path=5)

    def test_hosts(self):
        self.check_right("host", ("a", "a.com", "1.2.3.4", ".".join(["a"] * 10)))
        wrong = [value for value in OTHERS if value not in ("x", "com")]
        self.check_wrong("host", wrong + ["A.com", "a.com.", ".a.com", "1.2.3", "a..b", ".".join(["a"] * 11)])

    def test_exactness(self):
        self.check_right("is_exact", (True, False))
        self.check_wrong("is_exact", [value for value in OTHERS if not isinstance(value, bool)])
        self.check_right("is_exact", (True,), host="1.2.3.4")
        self.check_wrong("is_exact", (False,), host="1.2.3.4")
        self.check_right("is_exact", (False,), host="1.2.3.com")

    def test_paths(self):
        self.check_right("path", ("/", "/a", "//", "/" + "x" * 199))
        self.check_wrong("path", [value for value in OTHERS] + ["a", "/a b", "/;", "/?", "/#", "/" + "x" * 200])

    def test_flags(self):
        for field in ("is_secure", "is_hidden"):
            self.check_right(field, (True, False))
            self.check_wrong(field, [value for value in OTHERS if not isinstance(value, bool)])

    def test_sames(self):
        self.check_right("same", ("strict", "lax", "default"))
        self.check_right("same", ("strict", "lax", "default", "none"), is_secure=True)
        self.check_wrong("same", OTHERS + ("Strict", "none", "LAX", ["lax"]))
        self.check_wrong("same", ("None",), is_secure=True)

    def test_priorities(self):
        self.check_right("priority", (0, 1, 2))
        self.check_wrong("priority", [value for value in OTHERS if type(value) is not int or value not in (0, 1)] + [3, -1])

    def test_births(self):
        self.check_right("born", ((0, 0), (0, 10 ** 30), (5, 0)), seen=5)
        self.check_right("born", ((LAST_TICK, 7),), seen=LAST_TICK)
        wrong = [value for value in OTHERS if value != (1, 2)]
        self.check_wrong("born", wrong + [(0,), (0, 0, 0), [0, 0], (-1, 0), (0, -1), (LAST_TICK + 1, 0), (True, 0),
                                          (0, True), (0, False), (0, None), ("0", 0), (0, 1.0)])

    def test_seens(self):
        self.check_right("seen", (5, 6, LAST_TICK), born=(5, 1))
        wrong = [value for value in OTHERS if type(value) is not int]
        self.check_wrong("seen", wrong + [4, 0, -1, LAST_TICK + 1], born=(5, 1))

    def test_ends(self):
        self.check_right("ends", (None, 8, 9, 7 + MOST_AGE), born=(5, 1), seen=7)
        self.check_right("ends", (LAST_TICK,), seen=LAST_TICK - 1)
        self.check_right("ends", (None,), seen=LAST_TICK)
        self.check_right("ends", (LAST_TICK,), seen=LAST_TICK - MOST_AGE)
        wrong = [value for value in OTHERS if value is not None and type(value) is not int]
        self.check_wrong("ends", wrong + [7, 6, 0, -1, 7 + MOST_AGE + 1, LAST_TICK], born=(5, 1), seen=7)
        self.check_wrong("ends", (LAST_TICK + 1, LAST_TICK), seen=LAST_TICK)


class SpaceTest(CrumbCase):
    def test_partitions(self):
        self.check_right("space", (None, NEAR), is_secure=True)
        self.check_right("space", (None, NEAR, FAR, (("http", "b.net"), True), (("https", "x"), True)),
                         is_secure=True, same="none")
        wrong = OTHERS[1:] + (HERE, (HERE,), (HERE, 1), (HERE, 0), (HERE, None), (HERE, False, False), [HERE, False],
                              (("https", "A.com"), False), (("ftp", "a.com"), True), (list(HERE), True),
                              (("https", "a.com", "/"), True), (None, True))
        self.check_wrong("space", wrong, is_secure=True, same="none")

    def test_they_need_security(self):
        self.check_wrong("space", (NEAR, FAR))
        self.check_wrong("space", (NEAR, FAR), host="localhost")

    def test_foreign_ones_need_none(self):
        for same in ("strict", "lax", "default"):
            self.check_wrong("space", (FAR, (("https", "b.net"), True)), is_secure=True, same=same)
            self.check_right("space", (NEAR,), is_secure=True, same=same)

    def test_the_others_have_the_host_of_their_site(self):
        for host in ("a.com", "www.a.com", "x.y.a.com"):
            self.check_right("space", (NEAR,), host=host, is_secure=True)
        for host in ("com", "ba.com", "b.com", "a.com.b", "a.b", "1.2.3.4"):
            self.check_wrong("space", (NEAR,), host=host, is_secure=True)
            self.check_right("space", (FAR,), host=host, is_secure=True, same="none")
        self.check_right("space", ((("https", "1.2.3.4"), False),), host="1.2.3.4", is_secure=True)

    def test_the_others_are_safe_with_the_scheme(self):
        self.check_wrong("space", ((("http", "a.com"), False),), is_secure=True)
        self.check_wrong("space", ((("http", "a.com"), False),), host="x.a.com", is_secure=True, same="none")
        for host in ("localhost", "x.localhost"):
            for scheme in ("http", "https"):
                self.check_right("space", (((scheme, "localhost"), False),), host=host, is_secure=True)
        self.check_wrong("space", ((("http", "xlocalhost"), False),), host="xlocalhost", is_secure=True)


class MarkTest(CrumbCase):
    def test_secure_mark(self):
        for name, value in (("__Secure-n", "v"), ("__SECURE-", ""), ("__secure-x", "v"), ("", "__sEcUrE-n")):
            self.check_wrong("is_secure", (False,), name=name, value=value)
            self.check_right("is_secure", (True,), name=name, value=value, is_exact=False, path="/x")

    def test_host_mark(self):
        for name, value in (("__Host-n", "v"), ("__HOST-", ""), ("__host-x", "v"), ("", "__hOsT-n"), ("", "__Host-=")):
            self.check_right("is_secure", (True,), name=name, value=value)
            self.check_wrong("is_secure", (False,), name=name, value=value)
            self.check_wrong("path", ("/x", "//"), name=name, value=value)
            self.check_wrong("is_exact", (False,), name=name, value=value)

    def test_no_marks(self):
        for name, value in (("__Secure", "v"), ("_Secure-", "v"), ("x__Secure-", "v"), ("n", "__Secure-"), ("n", "__Host-v"),
                            ("__Host_n", "v"), ("__Host", "-v"), ("-__Host-", "v"), ("", "x__Host-"), ("__Hosts-", "")):
            crumb = Crumb(name, value, "a.com", is_exact=False, path="/x")
            self.assertIs(crumb.is_secure, False)


class KeyTest(unittest.TestCase):
    def test_keys(self):
        self.assertEqual(Crumb("n", "v", "a.com").key, ((), "a.com", True, "/", "n"))
        self.assertEqual(Crumb("", "v", "a.com", is_exact=False, path="/x").key, ((), "a.com", False, "/x", ""))
        self.assertEqual(Crumb(**OTHER).key, (NEAR, "b.a.com", False, "/x", "m"))

    def test_equal_by_all(self):
        crumb = Crumb(**OTHER)
        self.assertIs(crumb == Crumb(**OTHER), True)
        for field, value in (("name", "o"), ("value", "x"), ("host", "c.a.com"), ("is_exact", True), ("path", "/"),
                             ("is_hidden", False), ("same", "lax"), ("priority", 1), ("space", None), ("born", (5, 7)),
                             ("born", (4, 6)), ("seen", 6), ("ends", 9), ("ends", None)):
            self.assertIs(crumb == Crumb(**{**OTHER, field: value}), False, field)
        free = {"name": "n", "value": "v", "host": "a.com"}
        self.assertIs(Crumb(**free) == Crumb(**free, is_secure=True), False)
        for value in OTHERS + (crumb.key, parts(crumb)):
            self.assertIs(crumb == value, False)


class RemadeTest(unittest.TestCase):
    def check_field(self, field, crumb, **settings):
        with self.assertRaises(BadCrumb) as caught:
            remade(crumb, **settings)
        self.assertEqual(caught.exception.field, field)

    def test_other_settings(self):
        crumb = Crumb(**OTHER)
        self.assertEqual(remade(crumb), crumb)
        self.assertIsNot(remade(crumb), crumb)
        for field, value in (("name", "o"), ("value", "x"), ("host", "c.a.com"), ("is_exact", True), ("path", "/"),
                             ("is_hidden", False), ("same", "lax"), ("priority", 0), ("space", None), ("born", (7, 7)),
                             ("seen", 6), ("ends", None)):
            self.assertEqual(parts(remade(crumb, **{field: value})), tuple({**OTHER, field: value}.values()))
        self.assertEqual(remade(crumb=crumb, seen=9, ends=10).seen, 9)
        self.assertEqual(crumb, Crumb(**OTHER))

    def test_settings_that_there_are_not(self):
        crumb = Crumb(**OTHER)
        self.check_field("key", crumb, key=5)
        self.check_field("colour", crumb, seen="x", colour=1, key=2)
        self.check_field("key", crumb, key=2, colour=1, value=5)
        with self.assertRaises(BadCrumb) as caught:
            remade(crumb, **{"self": 1})
        self.assertEqual(caught.exception.field, "self")

    def test_wrong_settings(self):
        crumb = Crumb(**OTHER)
        self.check_field("seen", crumb, ends=5, seen=4)
        self.check_field("ends", crumb, seen=8)
        self.check_field("same", crumb, is_secure=False)
        self.check_field("is_secure", crumb, is_secure=None)
        self.check_field("value", crumb, name="", value="")
        self.check_field("space", crumb, host="b.com")
        self.assertEqual(crumb, Crumb(**OTHER))

    def test_no_crumb(self):
        for value in OTHERS:
            self.check_field("crumb", value)
            self.check_field("crumb", value, colour=5)


class UnderRulesTest(unittest.TestCase):
    def check(self, rules, host, expected, **settings):
        self.assertIs(is_crumb(rules, Crumb("n", "v", host, **settings)), expected, (rules, host, settings))

    def test_hosts_that_are_their_own_suffix_are_exact(self):
        for host in ("com", "net", "b.uk", "localhost"):
            self.check(RULES, host, True)
            self.check(RULES, host, False, is_exact=False)
        for host in ("a.com", "www.a.com", "city.uk", "x.b.uk", "a.net"):
            self.check(RULES, host, True)
            self.check(RULES, host, True, is_exact=False)
        self.check((), "b.uk", True, is_exact=False)
        self.check(("a.com",), "a.com", False, is_exact=False)
        self.check(RULES, "1.2.3.4", True)

    def test_sites_of_partitions_are_families(self):
        for site, expected in (("a.com", True), ("www.a.com", False), ("com", True), ("x.b.uk", True), ("b.uk", True),
                               ("city.uk", True), ("x.city.uk", False), ("1.2.3.4", True)):
            for scheme in ("http", "https"):
                self.check(RULES, "b.net", expected, is_secure=True, same="none", space=((scheme, site), True))

    def test_sites_of_near_partitions_are_those_of_the_host(self):
        for host, site, expected in (("a.com", "a.com", True), ("x.a.com", "a.com", True), ("x.a.com", "x.a.com", False),
                                     ("a.com", "com", False), ("com", "com", True), ("x.b.uk", "b.uk", False),
                                     ("y.x.b.uk", "x.b.uk", True), ("1.2.3.4", "1.2.3.4", True)):
            self.check(RULES, host, expected, is_secure=True, space=(("https", site), False))

    def test_foreign_ones_need_no_family_of_the_host(self):
        self.check(RULES, "a.com", True, is_secure=True, same="none", space=(("https", "a.com"), True))
        self.check(RULES, "a.com", True, is_secure=True, same="none", space=(("https", "com"), True))

    def test_other_values(self):
        for value in OTHERS + (Crumb, Crumb("n", "v", "a.com").key):
            self.assertIs(is_crumb(RULES, value), False)
        self.assertIs(is_crumb(rules=(), value=Crumb("n", "v", "a.com")), True)

    def test_wrong_rules(self):
        for rules, index in ((None, None), (["com"], None), (("com", "com"), 1), (("a..b",), 0), (("com", 5), 1)):
            for value in (None, Crumb("n", "v", "com", is_exact=False)):
                with self.assertRaises(BadRules) as caught:
                    is_crumb(rules, value)
                self.assertEqual(caught.exception.index, index)


class EndedTest(unittest.TestCase):
    def test_ends(self):
        crumb = Crumb("n", "v", "a.com", seen=5, ends=9)
        for tick, expected in ((0, False), (5, False), (8, False), (9, True), (10, True), (LAST_TICK, True)):
            self.assertIs(has_ended(crumb, tick), expected)
        self.assertIs(has_ended(crumb=Crumb("n", "v", "a.com"), tick=LAST_TICK), False)

    def test_wrong_values(self):
        crumb = Crumb("n", "v", "a.com")
        for value, tick in itertools.product(OTHERS, (5, None)):
            with self.assertRaises(BadCrumb) as caught:
                has_ended(value, tick)
            self.assertEqual(caught.exception.field, "crumb")
        for tick in OTHERS + (LAST_TICK + 1, -1):
            if type(tick) is not int or not 0 <= tick <= LAST_TICK:
                with self.assertRaises(BadTick) as caught:
                    has_ended(crumb, tick)
                self.assertIs(caught.exception.given, tick)


if __name__ == "__main__":
    unittest.main()
