"""[5], [6] and [7]: rules for suffixes, suffixes, families and sites."""

import itertools
import unittest

from crumbjar.errors import BadHost, BadOrigin, BadRules
from crumbjar.hosts import labels_of
from crumbjar.suffixes import MOST_RULES, family_of, is_suffix, need_rules, site_of, suffix_of
from kinds import OTHERS, not_texts, not_tuples

RULES = ("com", "*.uk", "!city.uk", "shop.com")
RIGHT_RULES = ("a", "a.b", "co.uk", "*.a", "*.a.b", "!a.b", "!a.b.c", "1", "*.1", "!1.2", "a-b", "x" * 20,
               ".".join(["a"] * 12), "1.2.3.4", "256")
WRONG_RULES = ("", ".", "*", "*.", "!", "!a", "!*", "!*.a", "!!a.b", "*a", "a.*", "*.*", "*.*.a", "a.", ".a", "a..b",
               "A", "a.B", "-a", "a-", "a_b", "*.-", "!a.", "!.a", "! a.b", " a", "a ", "x" * 21, "*.!a.b", "a!", "**.a",
               "!a.b.", "*..a", "a.*.b")
THIRTY = tuple(f"r{number}" for number in range(30))


def patterns():
    """Small rules of all forms over two labels."""
    ends = [".".join(labels) for size in (1, 2, 3) for labels in itertools.product("ab", repeat=size)]
    return ends + ["*." + end for end in ends if len(end) < 4] + ["!" + end for end in ends if "." in end]


def oracle_suffix(rules, host):
    """[5] in other words, label by label from the end."""
    labels = labels_of(host)[::-1]

    def matches(rule):
        parts = rule.lstrip("!").split(".")[::-1]
        pairs = list(zip(parts, labels))
        return len(parts) <= len(labels) and all(part in ("*", label) for part, label in pairs)

    exceptions = [rule.count(".") for rule in rules if rule[0] == "!" and matches(rule)]
    others = [rule.count(".") + 1 for rule in rules if rule[0] != "!" and matches(rule)]
    many = max(exceptions) if exceptions else max(others + [1])
    return ".".join(labels[:many][::-1])


class RulesTest(unittest.TestCase):
    def check_index(self, rules, index):
        calls = (
            lambda: need_rules(rules),
            lambda: suffix_of(rules, "a..b"),
            lambda: family_of(rules, 5),
            lambda: is_suffix(rules, ""),
            lambda: site_of(rules, None),
        )
        for call in calls:
            with self.assertRaises(BadRules) as caught:
                call()
            self.assertEqual(caught.exception.index, index)

    def test_right_rules(self):
        self.assertIsNone(need_rules(()))
        self.assertIsNone(need_rules(RULES))
        self.assertIsNone(need_rules(RIGHT_RULES))
        self.assertIsNone(need_rules(rules=("a.b", "*.b", "!a.b")))
        for rule in RIGHT_RULES:
            self.assertIsNone(need_rules((rule,)))

    def test_wrong_rules(self):
        for rule in WRONG_RULES:
            with self.subTest(rule):
                self.check_index((rule,), 0)
                self.check_index(("com", "*.uk", rule, "A"), 2)

    def test_rules_of_other_kinds(self):
        for value in not_texts():
            self.check_index((value,), 0)
            self.check_index(("com", value), 1)

    def test_no_tuple(self):
        for value in not_tuples() + [["com"], {"com": 1}, "com", {"com"}]:
            self.check_index(value, None)

    def test_a_rule_that_comes_twice(self):
        self.check_index(("com", "com"), 1)
        self.check_index(("com", "net", "*.uk", "com", "net"), 3)
        self.check_index(("*.uk", "*.uk"), 1)
        self.check_index(("a.b", "!a.b", "!a.b"), 2)

    def test_the_31st_rule(self):
        self.assertEqual(MOST_RULES, 30)
        self.assertIsNone(need_rules(THIRTY))
        self.check_index(THIRTY + ("com",), 30)
        self.check_index(THIRTY + ("com", "A"), 30)
        self.check_index(THIRTY + ("r0",), 30)
        self.check_index(THIRTY[:29] + ("r0", "com"), 29)
        self.check_index(THIRTY[:29] + ("A", "com"), 29)
        self.check_index(("A",) + THIRTY, 0)


class SuffixTest(unittest.TestCase):
    def check_place(self, host, place):
        for call in (suffix_of, family_of, is_suffix):
            with self.assertRaises(BadHost) as caught:
                call(RULES, host)
            self.assertEqual(caught.exception.place, place)

    def test_suffixes(self):
        for host, suffix, family in (
            ("a.b.co.uk", "co.uk", "b.co.uk"),
            ("b.co.uk", "co.uk", "b.co.uk"),
            ("co.uk", "co.uk", "co.uk"),
            ("uk", "uk", "uk"),
            ("city.uk", "uk", "city.uk"),
            ("a.city.uk", "uk", "city.uk"),
            ("a.b.city.uk", "uk", "city.uk"),
            ("xcity.uk", "xcity.uk", "xcity.uk"),
            ("com", "com", "com"),
            ("a.com", "com", "a.com"),
            ("b.a.com", "com", "a.com"),
            ("shop.com", "shop.com", "shop.com"),
            ("x.shop.com", "shop.com", "x.shop.com"),
            ("y.x.shop.com", "shop.com", "x.shop.com"),
            ("xshop.com", "com", "xshop.com"),
            ("net", "net", "net"),
            ("a.net", "net", "a.net"),
            ("c.b.a.net", "net", "a.net"),
        ):
            with self.subTest(host):
                self.assertEqual(suffix_of(RULES, host), suffix)
                self.assertEqual(family_of(RULES, host), family)
                self.assertIs(is_suffix(RULES, host), suffix == host)

    def test_without_rules(self):
        for host in ("a", "b.a", "c.b.a"):
            self.assertEqual(suffix_of((), host), "a")
            self.assertEqual(family_of((), host), host[-3:])
            self.assertIs(is_suffix((), host), host == "a")

    def test_address_hosts(self):
        for rules in ((), RULES, ("4", "*.4", "3.4", "1.2.3.4", "!3.4")):
            for host in ("1.2.3.4", "0.0.0.0"):
                self.assertIsNone(suffix_of(rules, host))
                self.assertEqual(family_of(rules, host), host)
                self.assertIs(is_suffix(rules, host), False)

    def test_a_star_stands_for_one_label(self):
        self.assertEqual(suffix_of(("*.b.c",), "x.a.b.c"), "a.b.c")
        self.assertEqual(suffix_of(("*.b.c",), "b.c"), "c")
        self.assertEqual(suffix_of(("*.b.c",), "x.y.c"), "c")

    def test_the_rule_with_the_most_labels(self):
        for rules in itertools.permutations(("a", "b.a", "*.b.a")):
            self.assertEqual(suffix_of(rules, "d.c.b.a"), "c.b.a")
            self.assertEqual(suffix_of(rules, "b.a"), "b.a")
        for rules in itertools.permutations(("!b.a", "!c.b.a", "d.c.b.a")):
            self.assertEqual(suffix_of(rules, "e.d.c.b.a"), "b.a")
            self.assertEqual(suffix_of(rules, "d.b.a"), "a")

    def test_hosts_of_other_kinds(self):
        for value in not_texts():
            self.check_place(value, 0)

    def test_hosts_as_they_stand(self):
        for host, place in (("", 1), ("A.com", 1), ("a.com.", 7), ("a..b", 3), ("1.2.3", 6), ("a.Com", 3)):
            self.check_place(host, place)

    def test_by_name(self):
        self.assertEqual(suffix_of(rules=RULES, host="a.com"), "com")
        self.assertEqual(family_of(host="b.a.com", rules=RULES), "a.com")
        self.assertIs(is_suffix(rules=RULES, host="com"), True)

    def test_small_rules_like_the_words(self):
        hosts = [".".join(labels) for size in range(1, 5) for labels in itertools.product("ab", repeat=size)]
        for rules in itertools.combinations(patterns(), 2):
            for host in hosts:
                suffix = oracle_suffix(rules, host)
                self.assertEqual(suffix_of(rules, host), suffix, (rules, host))
                self.assertIs(is_suffix(rules, host), suffix == host)

    def test_the_family_of_a_family_is_itself(self):
        hosts = [".".join(labels) for size in range(1, 5) for labels in itertools.product("ab", repeat=size)]
        for rules in itertools.combinations(patterns(), 2):
            for host in hosts:
                family = family_of(rules, host)
                self.assertTrue(host == family or host.endswith("." + family))
                self.assertEqual(family_of(rules, family), family, (rules, host))
                if not is_suffix(rules, host):
                    self.assertEqual(suffix_of(rules, family), suffix_of(rules, host))
                    self.assertEqual(family.partition(".")[2], suffix_of(rules, host))


class SiteTest(unittest.TestCase):
    def test_sites(self):
        self.assertEqual(site_of(RULES, ("https", "www.x.com")), ("https", "x.com"))
        self.assertEqual(site_of(RULES, ("http", "www.x.com")), ("http", "x.com"))
        self.assertEqual(site_of(RULES, ("http", "shop.com")), ("http", "shop.com"))
        self.assertEqual(site_of(RULES, ("http", "1.2.3.4")), ("http", "1.2.3.4"))
        self.assertEqual(site_of(rules=(), origin=("http", "c.b.a")), ("http", "b.a"))

    def test_no_origin(self):
        for value in OTHERS + (("http", "A"), ("http", "a."), ("ftp", "a"), ("http", "a", "/")):
            if value != ("http", "a.com"):
                with self.assertRaises(BadOrigin) as caught:
                    site_of(RULES, value)
                self.assertIs(caught.exception.given, value)


if __name__ == "__main__":
    unittest.main()
