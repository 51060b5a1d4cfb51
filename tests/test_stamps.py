"""[40]: devices, stamps, keys and writes, and when one write is greater than another one."""

import itertools
import unittest

from crumbjar.crumbs import Crumb
from crumbjar.errors import BadCrumb
from crumbjar.ledgers import Ledger
from crumbjar.stamps import is_device, is_key, is_stamp, is_write
from crumbjar.words import LAST_TICK
from kinds import OTHERS

NEAR, FAR = (("https", "a.com"), False), (("https", "b.com"), True)
KEY = ((), "a.com", True, "/", "n")
CONTENT = ("v", False, False, "default", 1, 60)


class DevicesTest(unittest.TestCase):
    def test_sizes(self):
        self.assertEqual([is_device("abcdefghi"[:many]) for many in range(10)], [False] + [True] * 8 + [False])

    def test_signs(self):
        for text in ("a", "z", "desk", "abcdefgh", "zzzzzzzz"):
            self.assertIs(is_device(text), True)
        for text in ("A", "aB", "a1", "1", "a b", " a", "a ", "a-b", "a\t", "a\n", "`", "{", "_"):
            self.assertIs(is_device(text), False, text)

    def test_other_kinds(self):
        for value in OTHERS:
            self.assertIs(is_device(value), value in ("x", "com") and isinstance(value, str), value)
        for value in (["a"], ("a",), {"a": 1}, b"a"):
            self.assertIs(is_device(value), False)


class StampsTest(unittest.TestCase):
    def test_right_ones(self):
        for stamp in ((0, "a", 0), (LAST_TICK, "abcdefgh", 10 ** 30), (5, "desk", 7)):
            self.assertIs(is_stamp(stamp), True)

    def test_wrong_ones(self):
        for stamp in ((-1, "a", 0), (LAST_TICK + 1, "a", 0), (True, "a", 0), (0.0, "a", 0), ("0", "a", 0), (None, "a", 0),
                      (0, "", 0), (0, "A", 0), (0, "abcdefghi", 0), (0, 5, 0), (0, None, 0), (0, ["a"], 0),
                      (0, "a", -1), (0, "a", True), (0, "a", 1.0), (0, "a", "0"), (0, "a", None),
                      (0, "a"), (0, "a", 0, 0), [0, "a", 0], ()):
            self.assertIs(is_stamp(stamp), False, stamp)
        for value in OTHERS:
            self.assertIs(is_stamp(value), False)


class KeysTest(unittest.TestCase):
    def test_keys_of_crumbs(self):
        for crumb in (
            Crumb("n", "v", "a.com"), Crumb("", "v", "a.com"), Crumb("n", "", "a.com", is_exact=False, path="/x/y"),
            Crumb("n", "v", "1.2.3.4"), Crumb("n", "v", "com", is_exact=False), Crumb("k" * 4096, "", "a.com"),
            Crumb("__Host-n", "v", "a.com", is_secure=True), Crumb("__secure-n", "v", "a.com", is_secure=True, path="/x"),
            Crumb("n", "v", "a.com", is_secure=True, space=NEAR), Crumb("n", "v", "x.a.com", is_secure=True, space=NEAR),
            Crumb("n", "v", "a.com", is_secure=True, same="none", space=FAR),
            Crumb("n", "v", "localhost", is_secure=True, space=(("http", "localhost"), False)),
            Crumb("a\tb \"c\"", "v", "a.com", path="/" + "x" * 199),
        ):
            self.assertIs(is_key(crumb.key), True, crumb.key)

    def test_no_crumb_has_them(self):
        for key in (
            ((), "A.com", True, "/", "n"), ((), "", True, "/", "n"), ((), "1.2.3.4", False, "/", "n"),
            ((), "a.com", 1, "/", "n"), ((), "a.com", None, "/", "n"),
            ((), "a.com", True, "", "n"), ((), "a.com", True, "x", "n"), ((), "a.com", True, "/" + "x" * 200, "n"),
            ((), "a.com", True, "/;", "n"),
            ((), "a.com", True, "/", "a=b"), ((), "a.com", True, "/", "a;b"), ((), "a.com", True, "/", " n"),
            ((), "a.com", True, "/", "n\t"), ((), "a.com", True, "/", "k" * 4097), ((), "a.com", True, "/", "a\nb"),
            ((), "a.com", False, "/", "__Host-n"), ((), "a.com", True, "/x", "__HOST-n"),
            (NEAR, "b.com", True, "/", "n"), (NEAR, "xa.com", True, "/", "n"),
            ((("http", "a.com"), False), "a.com", True, "/", "n"),
            ((("ftp", "a.com"), True), "a.com", True, "/", "n"), ((("https", "a.com"), 1), "a.com", True, "/", "n"),
            (None, "a.com", True, "/", "n"), ("", "a.com", True, "/", "n"), (False, "a.com", True, "/", "n"),
            ([], "a.com", True, "/", "n"), ((("https", "a.com"),), "a.com", True, "/", "n"),
            ((), "a.com", True, "/"), ((), "a.com", True, "/", "n", "v"), [(), "a.com", True, "/", "n"], (),
        ):
            self.assertIs(is_key(key), False, key)

    def test_other_kinds(self):
        for value in OTHERS:
            self.assertIs(is_key(value), False)
        for at, value in itertools.product(range(5), OTHERS):
            key = KEY[:at] + (value,) + KEY[at + 1:]
            right = (value == () and at == 0 or value == "com" and at in (1, 4) or value == "x" and at in (1, 4)
                     or value == "" and at == 4 or isinstance(value, bool) and at == 2)
            self.assertIs(is_key(key), right, key)


def written(stamp=(50, "b", 5), birth=(40, "a", 4), content=CONTENT):
    """A write, right unless something else is told."""
    return (stamp, birth, content)


class WritesTest(unittest.TestCase):
    def test_births(self):
        self.assertIs(is_write(KEY, written()), True)
        self.assertIs(is_write(KEY, written(birth=(50, "b", 5))), True)
        for birth in ((50, "b", 4), (50, "a", 9), (49, "z", 9), (0, "a", 0)):
            self.assertIs(is_write(KEY, written(birth=birth)), True, birth)
        for birth in ((50, "b", 6), (50, "c", 0), (51, "a", 0)):
            self.assertIs(is_write(KEY, written(birth=birth)), False, birth)
        for birth in (None, (), (40, "a"), (40, "A", 4), (True, "a", 4), [40, "a", 4], "a"):
            self.assertIs(is_write(KEY, written(birth=birth)), False, birth)

    def test_gone(self):
        self.assertIs(is_write(KEY, written(birth=(50, "b", 5), content=None)), True)
        for birth in ((50, "b", 4), (49, "b", 5), (50, "a", 5), (50, "b", 6), None):
            self.assertIs(is_write(KEY, written(birth=birth, content=None)), False, birth)

    def test_ends_for_the_seen_of_the_stamp(self):
        for ends, right in ((50, False), (51, True), (50 + 34560000, True), (51 + 34560000, False), (None, False),
                            (True, False), ("60", False), (-1, False), (49, False)):
            self.assertIs(is_write(KEY, written(content=CONTENT[:5] + (ends,))), right, ends)
        last = (LAST_TICK, "a", 0)
        self.assertIs(is_write(KEY, (last, last, None)), True)
        self.assertIs(is_write(KEY, (last, last, CONTENT[:5] + (LAST_TICK,))), False)
        before = (LAST_TICK - 1, "a", 0)
        self.assertIs(is_write(KEY, (before, before, CONTENT[:5] + (LAST_TICK,))), True)
        self.assertIs(is_write(KEY, (before, before, CONTENT[:5] + (LAST_TICK + 1,))), False)

    def test_contents_that_a_crumb_with_the_key_has(self):
        for key, change, right in (
            ((NEAR, "a.com", True, "/", "n"), (), False),
            ((NEAR, "a.com", True, "/", "n"), (1, True), True),
            ((FAR, "a.com", True, "/", "n"), (1, True), False),
            ((FAR, "a.com", True, "/", "n"), (1, True, 3, "none"), True),
            (KEY, (3, "none"), False),
            (((), "a.com", True, "/", "__Secure-n"), (), False),
            (((), "a.com", True, "/", "__Secure-n"), (1, True), True),
            (((), "a.com", True, "/", "__host-n"), (), False),
            (((), "a.com", True, "/", "__host-n"), (1, True), True),
            (((), "a.com", True, "/", ""), (), True),
            (((), "a.com", True, "/", ""), (0, ""), False),
            (((), "a.com", True, "/", ""), (0, "__Secure-v"), False),
            (((), "a.com", True, "/", ""), (0, "__Secure-v", 1, True), True),
            (((), "a.com", True, "/x", ""), (0, "__Host-v", 1, True), False),
            (((), "a.com", False, "/", ""), (0, "__Host-v", 1, True), False),
            (((), "a.com", True, "/", "k" * 4096), (), False),
            (((), "a.com", True, "/", "k" * 4096), (0, ""), True),
            (((), "a.com", True, "/", "k" * 4095), (), True),
        ):
            content = list(CONTENT)
            for at, worth in zip(change[::2], change[1::2]):
                content[at] = worth
            self.assertIs(is_write(key, written(content=tuple(content))), right, (key[0], key[4][:9], change))

    def test_wrong_contents(self):
        for at, worth in ((0, 5), (0, "a;b"), (0, " v"), (0, "v\n"), (1, 1), (1, None), (2, 0), (2, "no"), (3, "Lax"), (3, None),
                          (3, ["lax"]), (4, 3), (4, -1), (4, True), (4, "1")):
            content = CONTENT[:at] + (worth,) + CONTENT[at + 1:]
            self.assertIs(is_write(KEY, written(content=content)), False, content)
        for content in ((), CONTENT[:5], CONTENT + (1,), list(CONTENT), "vvvvvv", False, 0):
            self.assertIs(is_write(KEY, written(content=content)), False, content)

    def test_crumbs_tell_the_same(self):
        keys = [KEY, (NEAR, "x.a.com", False, "/", "n"), (FAR, "a.com", True, "/", ""), ((), "a.com", False, "/x", "")]
        contents = itertools.product(("", "v", "__Host-v"), (False, True), (False,), ("none", "lax"), (1,), (50, 51, 34560050))
        for key, content in itertools.product(keys, list(contents)):
            space, host, is_exact, path, name = key
            value, is_secure, is_hidden, same, priority, ends = content
            try:
                Crumb(name, value, host, is_exact=is_exact, path=path, is_secure=is_secure, is_hidden=is_hidden, same=same,
                      priority=priority, space=space or None, born=(40, 9), seen=50, ends=ends)
                right = True
            except BadCrumb:
                right = False
            self.assertIs(is_write(key, written(content=content)), right, (key, content))

    def test_any_values(self):
        for value in OTHERS:
            self.assertIs(is_write(KEY, value), False)
            self.assertIs(is_write(value, written()), False)
            self.assertIs(is_write(value, value), False)
            self.assertIs(is_write(KEY, written(stamp=value)), False)
            if value is not None:
                self.assertIs(is_write(KEY, written(birth=(50, "b", 5), content=value)), False)
        self.assertIs(is_write(key=KEY, value=list(written())), False)
        self.assertIs(is_write(KEY, written() + (1,)), False)
        self.assertIs(is_write(KEY, written()[:2]), False)


class GreaterWritesTest(unittest.TestCase):
    def check_rising(self, *writes):
        ledgers = [Ledger(writes={KEY: write}) for write in writes]
        for low, high in itertools.combinations(range(len(writes)), 2):
            for pair in ((low, high), (high, low)):
                merged = ledgers[pair[0]].merged(ledgers[pair[1]])
                self.assertEqual(merged.writes, {KEY: writes[high]}, pair)

    def test_stamps_decide_first(self):
        self.check_rising(
            written((50, "a", 9), (50, "a", 9), CONTENT), written((50, "b", 5), (50, "b", 5), None), written((50, "b", 6)),
            written((51, "a", 0), (0, "a", 0)), written((51, "a", 0), (0, "a", 1)))

    def test_none_is_less_with_one_stamp(self):
        self.check_rising(written(birth=(50, "b", 5), content=None), written(birth=(0, "a", 0), content=("", False, False, "lax", 0, 51)))

    def test_birth_and_content_decide_then(self):
        low = ("", False, False, "default", 0, 60)
        self.check_rising(
            written(birth=(40, "a", 4), content=("z", True, True, "strict", 2, 99)), written(birth=(40, "a", 5), content=low),
            written(birth=(40, "b", 0), content=low), written(birth=(41, "a", 0), content=low),
            written(birth=(41, "a", 0), content=("", False, False, "default", 0, 61)),
            written(birth=(41, "a", 0), content=("", False, False, "default", 1, 60)),
            written(birth=(41, "a", 0), content=("", False, False, "lax", 0, 60)),
            written(birth=(41, "a", 0), content=("", False, True, "default", 0, 60)),
            written(birth=(41, "a", 0), content=("", True, False, "default", 0, 60)),
            written(birth=(41, "a", 0), content=("v", False, False, "default", 0, 60)))


if __name__ == "__main__":
    unittest.main()
