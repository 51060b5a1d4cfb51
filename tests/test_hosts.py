"""[4] and [8]: labels, hosts, address hosts, hosts that fit, and the places that BadHost tells."""

import itertools
import re
import unittest

from crumbjar.errors import BadHost
from crumbjar.hosts import host_fits, host_of, is_address_host, is_host, labels_of
from kinds import OTHERS, not_texts

TEN = ".".join(["a"] * 10)
LABEL_20 = "a" * 20
HOST_100 = ".".join([LABEL_20, LABEL_20, LABEL_20, LABEL_20, "b" * 16])
HEAD_63 = (LABEL_20 + ".") * 3
HOSTS = (
    "a", "0a", "a0", "a-b", "a--b", "x1.2y", "localhost", "www.shop.example", "1.a", "1.2.3.4.a", "256.a",
    "01.02.a", LABEL_20, TEN, HOST_100, "1" * 20 + ".a", "a.1-1", "1-1",
)
ADDRESS_HOSTS = ("0.0.0.0", "1.2.3.4", "255.255.255.255", "10.200.249.100", "9.99.199.250")
NO_HOSTS = (
    "", ".", "-", "a.", ".a", "a..b", "-a", "a-", "a.-b", "a-.b", "A", "a.B", "a b", " a", "a ", "a_b", "a/b", "a:b",
    "*", "*.a", "!a.b", "a\tb", "a\n", "1", "a.1", "1.2", "1.2.3", "1.2.3.4.5", "1.2.3.4.", "a.2.3.4", "1.2.3.256",
    "256.2.3.4", "1.2.3.04", "00.2.3.4", "1.2.3.00", "1.2.3.1000", "1..3.4", "1.2.3.-4", LABEL_20 + "a",
    "a." + LABEL_20 + "a", TEN + ".a", HOST_100 + "b", "a." + "1" * 20, TEN[:-1] + "1",
)
LABEL = re.compile(r"[a-z0-9](?:[a-z0-9-]{0,18}[a-z0-9])?\Z")


def oracle_is_host(text):
    """[4] in other words."""
    labels = text.split(".")
    if len(text) > 100 or len(labels) > 10 or not all(LABEL.match(label) for label in labels):
        return False
    if re.fullmatch("[0-9]+", labels[-1]):
        return len(labels) == 4 and all(label in map(str, range(256)) for label in labels)
    return True


def oracle_is_told(text):
    """Whether a text of small letters tells a host."""
    return oracle_is_host(text) or text.endswith(".") and oracle_is_host(text[:-1])


def oracle_place(text, is_right):
    """The place of the first sign with which the text cannot be continued to a right text."""
    ends = ["".join(signs) for size in range(4) for signs in itertools.product("a1.", repeat=size)]
    ends += [".1.1.1", "1.1.1.1"]
    begins = [any(is_right(text[:many] + end) for end in ends) for many in range(1, len(text) + 1)]
    return (begins + [False]).index(False) + 1


def short_texts():
    """All texts with at most five signs of these."""
    return ["".join(signs) for size in range(6) for signs in itertools.product("a1-.", repeat=size)]


class IsHostTest(unittest.TestCase):
    def test_hosts(self):
        for text in HOSTS:
            self.assertIs(is_host(text), True, text)
            self.assertIs(is_address_host(text), False, text)

    def test_address_hosts(self):
        for text in ADDRESS_HOSTS:
            self.assertIs(is_host(text), True, text)
            self.assertIs(is_address_host(text), True, text)

    def test_texts_that_are_no_hosts(self):
        for text in NO_HOSTS:
            self.assertIs(is_host(text), False, text)
            self.assertIs(is_address_host(text), False, text)

    def test_values_of_other_kinds(self):
        for value in OTHERS:
            if value not in ("x", "com"):
                self.assertIs(is_host(value), False)
            self.assertIs(is_address_host(value), False)

    def test_each_number_of_an_address_host(self):
        for number in range(300):
            for place in range(4):
                labels = ["1", "2", "3", "4"]
                labels[place] = str(number)
                self.assertIs(is_address_host(".".join(labels)), number <= 255)

    def test_short_texts_like_the_words(self):
        for text in short_texts():
            self.assertIs(is_host(text), oracle_is_host(text), text)


class HostOfTest(unittest.TestCase):
    def check_place(self, text, place):
        with self.assertRaises(BadHost) as caught:
            host_of(text)
        self.assertEqual(caught.exception.place, place, text)
        self.assertIs(type(caught.exception.place), int)

    def test_hosts_as_they_stand(self):
        for text in HOSTS + ADDRESS_HOSTS:
            self.assertEqual(host_of(text), text)

    def test_any_case_and_one_dot(self):
        for text in HOSTS + ADDRESS_HOSTS:
            self.assertEqual(host_of(text + "."), text)
            self.assertEqual(host_of(text.upper()), text)
            self.assertEqual(host_of(text.title() + "."), text)
        self.assertEqual(host_of("WWW.Shop.example."), "www.shop.example")
        self.assertEqual(host_of(text="A.b"), "a.b")

    def test_no_string(self):
        for value in not_texts():
            self.check_place(value, 0)

    def test_too_short(self):
        for text in ("", "a-", "a.b-", "1", "12", "1.2", "1.2.3", "1.2.3.", "1.2.3.256", "1.2.3.04", "256.1.1.1",
                     "a.1", "1.2.3.4.5", "A-", "1" * 20, "a." + "1" * 20, TEN[:-1] + "1"):
            self.check_place(text, len(text) + 1)

    def test_a_sign_that_no_host_has(self):
        for sign in " !\"#$&'()*+,/:;<=>?@[\\]^_`{|}~\t\n":
            self.check_place(sign, 1)
            self.check_place("ab" + sign + "c", 3)
            self.check_place("a.b." + sign, 5)
            self.check_place("a.b" + sign, 4)

    def test_dots_and_minus_signs(self):
        for text, place in ((".", 1), (".a", 1), ("-", 1), ("-a", 1), ("a..b", 3), ("a..", 3), ("a.b..", 5),
                            ("a.-b", 3), ("a-.b", 3), ("a-.", 3), ("1.2.3.4..", 9), ("1..", 3), ("1-.", 3)):
            self.check_place(text, place)

    def test_labels_of_20_signs(self):
        self.check_place(LABEL_20 + "a", 21)
        self.check_place("a." + LABEL_20 + "a.b", 23)
        self.check_place("1" * 21, 21)
        self.check_place("a" * 19 + "-", 20)
        self.check_place("a" * 19 + "-a", 20)
        self.check_place("a" * 18 + "-", 20)
        self.assertEqual(host_of("a" * 18 + "-A"), "a" * 18 + "-a")

    def test_10_labels(self):
        self.assertEqual(host_of(TEN + "."), TEN)
        self.check_place(TEN + ".a", 21)
        self.check_place(TEN + "..", 21)
        self.check_place(TEN[:-1] + "1.", 20)
        self.check_place(TEN[:-1] + "1.a", 20)
        self.check_place(TEN[:-1] + "-", 19)
        self.check_place(TEN[:-1] + "1" * 19, 38)
        self.check_place(TEN[:-1] + "1" * 20, 38)
        self.check_place(TEN[:-1] + "a-.", 21)

    def test_100_signs(self):
        self.assertEqual(host_of(HOST_100), HOST_100)
        self.assertEqual(host_of(HOST_100 + "."), HOST_100)
        self.check_place(HOST_100 + "b", 101)
        self.check_place(HOST_100 + "-", 101)
        self.check_place(HOST_100 + "b.", 101)
        self.check_place(HOST_100 + ".b", 102)
        self.check_place(HOST_100[:99] + "-", 100)
        self.check_place(HOST_100[:98] + "-", 100)
        self.assertEqual(host_of(HOST_100[:99] + "."), HOST_100[:99])
        self.check_place(HOST_100[:99] + ".a", 101)
        self.check_place(HOST_100[:98] + "..", 100)

    def test_digits_where_there_is_no_room(self):
        self.check_place(HOST_100[:84] + "1" * 15, 100)
        self.check_place(HOST_100[:84] + "1" * 16, 100)
        self.check_place(HEAD_63 + "a" * 15 + "." + "1" * 19, 99)
        self.check_place(HEAD_63 + "a" * 15 + "." + "1" * 20, 99)
        self.check_place(HEAD_63 + "a" * 14 + "." + "1" * 20, 99)
        self.check_place(HEAD_63 + "a" * 14 + "." + "1" * 20 + ".", 100)
        self.check_place(HEAD_63 + "a" * 14 + "." + "1" * 20 + ".1", 100)
        self.check_place(HEAD_63 + "a" * 14 + "." + "1" * 20 + "a", 99)

    def test_short_texts_like_the_words(self):
        for text in short_texts():
            if not oracle_is_told(text):
                self.check_place(text, oracle_place(text, oracle_is_told))


class LabelsTest(unittest.TestCase):
    def check_place(self, text, place):
        for call in (lambda: labels_of(text), lambda: host_fits(text, None), lambda: host_fits("a", text)):
            with self.assertRaises(BadHost) as caught:
                call()
            self.assertEqual(caught.exception.place, place, text)

    def test_labels(self):
        self.assertEqual(labels_of("a"), ("a",))
        self.assertEqual(labels_of("www.shop.example"), ("www", "shop", "example"))
        self.assertEqual(labels_of("1.2.3.4"), ("1", "2", "3", "4"))
        self.assertEqual(labels_of(host=TEN), ("a",) * 10)

    def test_no_string(self):
        for value in not_texts():
            self.check_place(value, 0)

    def test_great_letters_are_wrong(self):
        for text, place in (("A", 1), ("a.B", 3), ("www.Shop.example", 5), ("1.2.3.A", 7), ("aZ", 2)):
            self.check_place(text, place)

    def test_a_dot_at_the_end_is_wrong(self):
        for text, place in (("a.", 3), ("a.b.", 5), ("1.2.3.4.", 9), (TEN + ".", 20), (TEN + ".a", 20),
                            (HOST_100 + ".", 101), (HOST_100[:99] + ".", 100), (HOST_100[:98] + ".", 100)):
            self.check_place(text, place)

    def test_short_texts_like_the_words(self):
        for text in short_texts():
            if not oracle_is_host(text):
                self.check_place(text, oracle_place(text, oracle_is_host))

    def test_places(self):
        for text, place in (("", 1), (".", 1), ("-a", 1), ("a..b", 3), ("a-", 3), ("a-.b", 3), ("a.1", 4),
                            ("1.2.3", 6), ("1.2.3.256", 10), (LABEL_20 + "a", 21), (HOST_100 + "b", 101),
                            ("a b", 2), ("a.b-", 5), (TEN[:-1] + "1.", 20)):
            self.check_place(text, place)


class HostFitsTest(unittest.TestCase):
    def test_equal(self):
        for host in HOSTS + ADDRESS_HOSTS:
            self.assertIs(host_fits(host, host), True)

    def test_below(self):
        for host, domain in (("a.b.c", "b.c"), ("a.b.c", "c"), ("x.localhost", "localhost"), ("1.2.a", "2.a")):
            self.assertIs(host_fits(host, domain), True)
            self.assertIs(host_fits(domain, host), False)
        self.assertIs(host_fits(host="a.b", domain="b"), True)

    def test_not_below(self):
        for host, domain in (("ab.c", "b.c"), ("a.b.c", "a.b"), ("a", "b"), ("b.c.d", "b.c"), ("a.bc", "c")):
            self.assertIs(host_fits(host, domain), False)

    def test_address_hosts_fit_themselves_alone(self):
        self.assertIs(host_fits("1.2.3.4", "1.2.3.5"), False)
        self.assertIs(host_fits("11.2.3.4", "1.2.3.4"), False)
        self.assertIs(host_fits("1.2.3.4", "a"), False)

    def test_the_first_argument_first(self):
        for host, domain, place in (("a..b", "-", 3), ("a", "b.-", 3), (5, "", 0), ("", 5, 1), ("a", 5, 0)):
            with self.assertRaises(BadHost) as caught:
                host_fits(host, domain)
            self.assertEqual(caught.exception.place, place)


if __name__ == "__main__":
    unittest.main()
