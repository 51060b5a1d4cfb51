"""[60] to [62], [65] and [66]: shelves, wishes, rows, weights and lines, certificates, the easiest wish."""

import itertools
import random
import time
import unittest

from crumbjar.errors import BadShelf, BadWish
from crumbjar.shelves import best_row, certificate, check_certificate, easiest, fewest, weight
from kinds import OTHERS

SHELF = (4, ((4, "a", "1"), (4, "b", "2"), (2, "c", "3"), (2, "a", "4"), (1, "d", "5")))
WISH = (("a", "1"), ("d", "x"))


def is_low(name):
    return name.lower().startswith("__host-")


def is_row(shelf, wish, row):
    """[61] word by word, for a tuple of pairs of indices."""
    depths = [depth for depth, _, _ in shelf[1]]
    for i, j in row:
        if shelf[1][i][1] != wish[j][0]:
            return False
    for (i, j), (k, l) in zip(row, row[1:]):
        if k <= i or l <= j:
            return False
        if l != j + 1 and (depths[i] <= depths[k] or any(is_low(wish[at][0]) for at in range(j + 1, l))):
            return False
    if row and row[0][1] != 0:
        i, j = row[0]
        return depths[i] < shelf[0] and not any(is_low(wish[at][0]) for at in range(j))
    return True


def all_rows(shelf, wish):
    """All rows for a shelf and a wish."""
    pairs = [(i, j) for i in range(len(shelf[1])) for j in range(len(wish)) if shelf[1][i][1] == wish[j][0]]
    rows = [row for many in range(len(pairs) + 1) for row in itertools.combinations(pairs, many)]
    return [row for row in rows if is_row(shelf, wish, row)]


def weight_of(shelf, wish, row):
    return sum(2 if shelf[1][i][2] == wish[j][1] else 1 for i, j in row)


def some_shelf(numbers, many, names="abcd", top=3):
    depths = sorted((numbers.randint(1, top) for _ in range(many)), reverse=True)
    return (top, tuple((depth, numbers.choice(names), numbers.choice("12")) for depth in depths))


def some_wish(numbers, many, names="abcd"):
    return tuple((name, numbers.choice("12")) for name in numbers.sample(list(names), many))


NAMES = ("a", "b", "c", "__Host-d", "__HOST-e", "__hostf")


class RowsTest(unittest.TestCase):
    def check(self, shelf, wish, row, told):
        self.assertEqual(weight(shelf, wish, row), told, row)
        self.assertIs(type(weight(shelf, wish, row)), type(told), row)

    def test_weights(self):
        for row, told in (((), 0), (((0, 0),), 2), (((3, 0),), 1), (((4, 1),), 1), (((0, 0), (4, 1)), 3), (((3, 0), (4, 1)), 2)):
            self.check(SHELF, WISH, row, told)
        self.assertEqual(weight(row=((0, 0),), wish=WISH, shelf=SHELF), 2)
        self.check((1, ()), (), (), 0)

    def test_pairs_that_are_none(self):
        for row in (((0, 1),), ((1, 0),), ((-5, 0),), ((0, -2),), ((5, 0),), ((0, 2),), ((0, 0), (0, 0)), ((3, 0), (0, 0)), ((4, 1), (0, 0)), ((0, 0), (3, 0)),
                    ((4, 1), (4, 1))):
            self.check(SHELF, WISH, row, None)

    def test_neighbors(self):
        deep = (5, SHELF[1])
        names = [("a", "1"), ("x", "1"), ("b", "2"), ("y", "1"), ("c", "3"), ("d", "5")]
        for row, told in ((((0, 0), (1, 2)), None), (((0, 0), (2, 4)), 4), (((1, 2), (2, 4)), 4), (((0, 0), (2, 4), (4, 5)), 6), (((0, 0), (4, 5)), 4)):
            self.check(deep, tuple(names), row, told)
        for low in ("__Host-x", "__host-", "__HOST-Y"):
            names[3] = (low, "1")
            for row, told in ((((1, 2), (2, 4)), None), (((0, 0), (2, 4)), None), (((0, 0),), 2), (((0, 0), (4, 5)), None)):
                self.check(deep, tuple(names), row, told)
        names[3] = ("__hos-x", "1")
        self.check(deep, tuple(names), ((1, 2), (2, 4)), 4)
        # Low names that are in the row, or in front of it or behind it, bar nothing between.
        shelf = (2, ((2, "__Host-a", "1"), (1, "__Host-b", "1")))
        self.check(shelf, (("__Host-a", "1"), ("x", "1"), ("__Host-b", "1"), ("__Host-c", "1")), ((0, 0), (1, 2)), 4)
        # Equal depths are neighbors only if nothing is between.
        self.check((9, ((2, "a", "1"), (2, "b", "1"))), (("a", "1"), ("b", "1")), ((0, 0), (1, 1)), 4)
        self.check((9, ((2, "a", "1"), (2, "b", "1"))), (("a", "1"), ("x", "1"), ("b", "1")), ((0, 0), (1, 2)), None)

    def test_first_pairs(self):
        wish = (("x", "1"), ("a", "1"), ("c", "3"))
        for row, told in ((((0, 1),), None), (((3, 1),), 1), (((2, 2),), 2), (((0, 1), (2, 2)), None)):
            self.check(SHELF, wish, row, told)
        self.check((5, SHELF[1]), wish, ((0, 1), (2, 2)), 4)
        for low in ("__Host-x", "__hOST-"):
            self.check((5, SHELF[1]), ((low, "1"), *wish[1:]), ((0, 1), (2, 2)), None)
            self.check((5, SHELF[1]), (("y", "1"), (low, "1"), *wish[1:]), ((2, 3),), None)
            self.check((5, SHELF[1]), (*wish[1:], (low, "1")), ((0, 0), (2, 1)), 4)
        # The first name may be low itself.
        self.check((5, ((4, "__Host-a", "1"),)), (("x", "1"), ("__Host-a", "1")), ((0, 1),), 2)

    def test_no_rows(self):
        for row in (*OTHERS, [(0, 0)], ([0, 0],), ((0, 0, 0),), ((0,),), (0, 0), ((True, 0),), ((0, False),), ((0.0, 0),), ((0, None),), (("0", "0"),), ((0, 0), None),
                    {(0, 0): 1}, ((None, None),), ((0, [0]),), (((0,), 0),)):
            if row != ():
                self.check(SHELF, WISH, row, None)

    def test_all_small_ones(self):
        for seed in range(60):
            numbers = random.Random(seed)
            shelf, wish = some_shelf(numbers, numbers.randint(0, 4), NAMES), some_wish(numbers, numbers.randint(0, 4), NAMES)
            rows = all_rows(shelf, wish)
            places = list(itertools.product(range(len(shelf[1])), range(len(wish))))
            for row in itertools.chain.from_iterable(itertools.product(places, repeat=many) for many in range(3)):
                self.assertEqual(weight(shelf, wish, row), weight_of(shelf, wish, row) if row in rows else None)


class BestRowsTest(unittest.TestCase):
    def test_few(self):
        self.assertEqual((best_row(SHELF, WISH), fewest(SHELF, WISH)), (((0, 0), (4, 1)), 4))
        self.assertEqual((best_row(SHELF, ()), fewest(SHELF, ())), ((), 5))
        self.assertEqual((best_row((1, ()), WISH), fewest((1, ()), WISH)), ((), 2))
        self.assertEqual((best_row(wish=(), shelf=(1, ())), fewest(wish=(), shelf=(1, ()))), ((), 0))

    def test_the_least_of_several(self):
        shelf = (2, ((2, "a", "1"), (2, "b", "1"), (1, "a", "1"), (1, "b", "1")))
        self.assertEqual(best_row(shelf, (("a", "1"), ("b", "1"))), ((0, 0), (1, 1)))
        self.assertEqual(best_row(shelf, (("b", "1"), ("a", "1"))), ((1, 0), (2, 1)))
        self.assertEqual(best_row(shelf, (("a", "2"),)), ((0, 0),))
        self.assertEqual(best_row(shelf, (("a", "2"), ("b", "1"))), ((0, 0), (1, 1)))

    def test_by_trying_all(self):
        for seed in range(400):
            numbers = random.Random(seed)
            names = NAMES if seed % 2 else "abcd"
            shelf, wish = some_shelf(numbers, numbers.randint(0, 7), names), some_wish(numbers, numbers.randint(0, 4), names)
            rows = all_rows(shelf, wish)
            heaviest = max(weight_of(shelf, wish, row) for row in rows)
            self.assertEqual(best_row(shelf, wish), min(row for row in rows if weight_of(shelf, wish, row) == heaviest))
            self.assertEqual(fewest(shelf, wish), len(shelf[1]) + len(wish) - heaviest)
            # A certificate shows that no row has fewer lines.
            for many in range(len(shelf[1]) + len(wish) + 1):
                self.assertIs(check_certificate(shelf, wish, many, certificate(shelf, wish)), many == fewest(shelf, wish))


class CertificatesTest(unittest.TestCase):
    SHELF, WISH = (3, ((3, "a", "1"), (2, "b", "2"), (2, "a", "9"), (1, "c", "3"))), (("a", "1"), ("x", "0"), ("b", "2"), ("c", "0"))

    def check(self, right, many, shown):
        self.assertIs(check_certificate(self.SHELF, self.WISH, many, shown), right, (many, shown))

    def test_one(self):
        row, table = certificate(self.SHELF, self.WISH)
        self.assertEqual((row, fewest(self.SHELF, self.WISH)), (((0, 0), (1, 2), (3, 3)), 3))
        self.check(True, 3, (row, table))
        self.assertIs(check_certificate(shown=(row, table), many=3, wish=self.WISH, shelf=self.SHELF), True)
        self.assertIsNot(certificate(self.SHELF, self.WISH)[1], certificate(self.SHELF, self.WISH)[1])

    def test_numbers(self):
        row = ((0, 0), (1, 2), (3, 3))
        least = {(0, 0): 5, (1, 2): 3, (2, 0): 2, (3, 3): 1}
        self.check(True, 3, (row, least))
        for pair in least:
            self.check(False, 3, (row, {**least, pair: least[pair] - 1}))
            self.check(False, 3, (row, {key: number for key, number in least.items() if key != pair}))
            for other in (None, True, 5.0, "5", [5]):
                self.check(False, 3, (row, {**least, pair: other}))
        # What may be the first one is not above the weight of the row, other pairs may be.
        self.check(False, 3, (row, {**least, (0, 0): 6}))
        self.check(True, 3, (row, {**least, (2, 0): 5}))
        self.check(False, 3, (row, {**least, (2, 0): 6}))
        self.check(False, 3, (row, {**least, (3, 3): 2}))
        self.check(True, 3, (row, {**least, (2, 0): 4}))
        first = (4, ((4, "a", "1"), (4, "b", "1")))
        wish = (("a", "1"), ("b", "1"))
        self.assertIs(check_certificate(first, wish, 0, (((0, 0), (1, 1)), {(0, 0): 4, (1, 1): 2})), True)
        self.assertIs(check_certificate((4, first[1][1:]), wish, 3, ((), {(0, 1): 10 ** 30})), True)
        self.assertIs(check_certificate((4, first[1][1:]), wish, 3, ((), {(0, 1): 1})), False)

    def test_other_keys(self):
        row, table = certificate(self.SHELF, self.WISH)
        self.check(True, 3, (row, {**table, (0, 1): None, (-1, 0): 99, "x": [], None: 5, (0, 0, 0): 7, (3, 0): "y", (): ()}))
        # True is not the same as 1, so this is no key for a pair.
        changed = {key: number for key, number in table.items() if key != (1, 2)}
        self.check(False, 3, (row, {**changed, (True, 2): table[(1, 2)]}))
        self.check(False, 3, (row, {**changed, (1.0, 2): table[(1, 2)]}))

    def test_rows(self):
        table = certificate(self.SHELF, self.WISH)[1]
        for row in (((0, 0), (1, 2)), ((0, 0),), (), ((1, 2), (3, 3)), ((2, 0), (3, 3)), ((0, 0), (2, 0)), [(0, 0), (1, 2), (3, 3)], ((0, 0), (1, 2), (3, 3), (4, 4)), None):
            for many in range(9):
                self.check(False, many, (row, table))

    def test_any_values(self):
        shown = certificate(self.SHELF, self.WISH)
        for value in OTHERS:
            self.check(False, value, shown)
            self.check(False, 3, value)
            self.check(False, value, value)
            self.check(False, 3, (value, shown[1]))
            self.check(False, 3, (shown[0], value))
        self.check(False, 3.0, shown)
        for value in (list(shown), shown[:1], shown + (1,), (shown[0], list(shown[1].items())), (list(shown[0]), shown[1])):
            self.check(False, 3, value)
        self.assertIs(check_certificate((1, ()), (), False, ((), {})), False)
        self.assertIs(check_certificate((1, ()), (), 0, ((), {})), True)


class EasiestTest(unittest.TestCase):
    def test_order(self):
        shelf = (3, ((3, "b", "1"), (3, "a", "2"), (2, "a", "1"), (2, "c", "3"), (1, "b", "9")))
        self.assertEqual(easiest(shelf, {"a": "1", "b": "1"}), (("b", "1"), ("a", "1")))
        self.assertEqual(easiest(shelf, {"c": "3", "a": "1"}), (("a", "1"), ("c", "3")))
        self.assertEqual(easiest(shelf, {"b": "9", "a": "7", "c": "7"}), (("a", "7"), ("c", "7"), ("b", "9")))
        self.assertEqual(easiest(shelf, {"z": "", "b": "8", "y": "1", "A": "2", "a": "8"}), (("b", "8"), ("a", "8"), ("A", "2"), ("y", "1"), ("z", "")))
        self.assertEqual(easiest(pairs={}, shelf=shelf), ())
        self.assertEqual(easiest((1, ()), {"b": "1", "a": "1"}), (("a", "1"), ("b", "1")))

    def test_nothing_is_changed(self):
        pairs = {"b": "1", "a": "2"}
        easiest(SHELF, pairs)
        self.assertEqual(list(pairs.items()), [("b", "1"), ("a", "2")])

    def test_errors(self):
        for value in OTHERS:
            if value != {} and value != {"a": 1} or value == {"a": 1}:
                with self.assertRaises(BadWish) as caught:
                    easiest(SHELF, value)
                self.assertIsNone(caught.exception.index)
            with self.assertRaises(BadShelf):
                easiest(value, value)
        for pairs in ({"a": None}, {"": "1"}, {1: "1"}, {None: "1"}, {("a",): "1"}, {"a=b": "1"}, {"a;": "1"}, {" a": "1"}, {"a": "1 "}, {"a": "1;2"}, {"a": "\n"},
                      {"a": "x" * 4096}, {"a" * 4097: ""}, {"a": "1", "b": 5}, {f"n{at}": "1" for at in range(61)}, (("a", "1"),), [("a", "1")]):
            with self.assertRaises(BadWish) as caught:
                easiest(SHELF, pairs)
            self.assertIsNone(caught.exception.index)
        for pairs in ({"a": "x" * 4095}, {"a" * 4096: ""}, {f"n{at}": "1" for at in range(60)}, {"a": "b=c"}):
            self.assertEqual(dict(easiest(SHELF, pairs)), pairs)

    def test_no_order_takes_fewer_lines(self):
        for seed in range(120):
            numbers = random.Random(seed)
            names = NAMES if seed % 2 else "abcd"
            shelf, pairs = some_shelf(numbers, numbers.randint(0, 6), names), dict(some_wish(numbers, numbers.randint(0, 4), names))
            wish = easiest(shelf, pairs)
            self.assertEqual(dict(wish), pairs)
            self.assertEqual(fewest(shelf, wish), min(fewest(shelf, order) for order in itertools.permutations(pairs.items())))
            on_shelf = [name for _, name, _ in shelf[1]]
            weights = sum((name in on_shelf) + ((name, value) in [row[1:] for row in shelf[1]]) for name, value in wish)
            self.assertEqual(fewest(shelf, wish), len(shelf[1]) + len(pairs) - weights)


class ErrorsTest(unittest.TestCase):
    CALLS = (lambda shelf, wish: weight(shelf, wish, None), best_row, fewest, certificate,
             lambda shelf, wish: check_certificate(shelf, wish, None, None))

    def check_shelf(self, shelf, index):
        for call in self.CALLS + (lambda shelf, wish: easiest(shelf, {} if wish else None),):
            for wish in (WISH, None):
                with self.assertRaises(BadShelf) as caught:
                    call(shelf, wish)
                self.assertEqual(caught.exception.index, index)

    def check_wish(self, wish, index):
        for call in self.CALLS:
            with self.assertRaises(BadWish) as caught:
                call(SHELF, wish)
            self.assertEqual(caught.exception.index, index)

    def test_no_shelves(self):
        row = (1, "n", "v")
        for value in (*OTHERS, [1, ()], (1, [], ()), (1,), (0, ()), (201, ()), (True, ()), (None, ()), ("1", ()), (1.0, ()), (1, None), (1, [row]), (1, {}), (1, "x"),
                      (1, (row,) * 1001), (0, (None,)), ((), 1)):
            self.check_shelf(value, None)
        for shelf in ((1, ()), (200, ()), (1, (row,) * 1000), (200, ((200, "", ""), (1, "a;b\n", "=")))):
            self.assertEqual(best_row(shelf, ()), ())

    def test_wrong_rows(self):
        right = (2, "n", "v")
        for row in (*OTHERS, (3, "n", "v"), (4, "n", "v"), (0, "n", "v"), (-1, "n", "v"), (True, "n", "v"), (1.0, "n", "v"), (None, "n", "v"), ("1", "n", "v"), (1, None, "v"),
                    (1, "n", None), (1, 5, "v"), (1, "n", b"v"), (1, "n"), (1, "n", "v", "v"), [1, "n", "v"]):
            self.check_shelf((2, (row,)), 0)
            self.check_shelf((2, (right, right, row, None)), 2)
        self.check_shelf((2, ((1, "n", "v"), right)), 1)
        self.check_shelf((200, ((9, "n", "v"), (8, "n", "v"), (9, "n", "v"), None)), 2)

    def test_no_wishes(self):
        for value in OTHERS:
            if not isinstance(value, tuple):
                self.check_wish(value, None)
        pairs = tuple((f"n{at}", "1") for at in range(61))
        self.check_wish(pairs, None)
        self.check_wish((None,) * 61, None)
        self.check_wish([("a", "1")], None)
        self.check_wish({"a": "1"}, None)
        self.assertEqual(fewest(SHELF, pairs[:60]), 65)

    def test_wrong_pairs(self):
        for pair in (*OTHERS, ("", "1"), ("a", None), ("a", 5), (5, "a"), (None, "1"), ("a",), ("a", "1", "2"), ["a", "1"], ("a=b", "1"), ("=a", "1"), ("a;b", "1"), ("a", "1;"),
                     (" a", "1"), ("a\t", "1"), ("a", " 1"), ("a", "1\t"), ("a\nb", "1"), ("a", "1\n2"), ("a", "x" * 4096), ("a" * 4097, ""), ("a" * 4096, "1"), ("ab", "cd", "ef")):
            if pair not in (("http", "a.com"),):
                self.check_wish((pair,), 0)
                self.check_wish((("x", "1"), ("y", "2"), pair, None), 2)
        self.check_wish((("a", "1"), ("b", "1"), ("a", "2")), 2)
        self.check_wish((("a", "1"), ("a", "1"), None), 1)
        for pair in (("a", ""), ("a", "=1=;"[:3]), ("a" * 4096, ""), ("a", "x" * 4095), ("a \t b", "1\t2"), ("__Host-a", "__secure-x"), ("\"", "\\")):
            self.assertEqual(fewest(SHELF, (pair,)), 5 if pair[0] == "a" else 6)


class SpeedTest(unittest.TestCase):
    def check(self, shelf, wish):
        start = time.monotonic()
        shown = certificate(shelf, wish)
        many = fewest(shelf, wish)
        self.assertIs(check_certificate(shelf, wish, many, shown), True)
        self.assertEqual(many, len(shelf[1]) + len(wish) - weight(shelf, wish, best_row(shelf, wish)))
        self.assertLess(time.monotonic() - start, 20)

    def test_forty_rows_and_thirty_pairs(self):
        names = [f"n{at}" for at in range(35)]
        for seed in range(5):
            numbers = random.Random(seed)
            self.check(some_shelf(numbers, 40, names, 9), some_wish(numbers, 30, names))

    def test_the_greatest(self):
        names = [f"n{at}" for at in range(60)]
        for seed, top in ((1, 200), (2, 3), (3, 1)):
            numbers = random.Random(seed)
            self.check(some_shelf(numbers, 1000, names, top), some_wish(numbers, 60, names))


if __name__ == "__main__":
    unittest.main()
