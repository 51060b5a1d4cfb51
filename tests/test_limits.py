"""[32]: groups, ranks, and which crumb goes."""

import itertools
import random
import unittest

from crumbjar.crumbs import Crumb, remade
from crumbjar.limits import goes, group_of, rank_of, swept
from crumbjar.suffixes import family_of
from crumbjar.words import LAST_TICK

RULES = ("com", "*.uk", "far.a.com")
HERE = (("https", "a.com"), False)
THERE = (("https", "news.net"), True)


def crumb(name, host="a.com", **settings):
    return Crumb(name, "v", host, **{"seen": 5, **settings})


class RankTest(unittest.TestCase):
    def test_ranks(self):
        self.assertEqual(rank_of(Crumb("n", "v", "a.com")), (1, False, 0, ((), "a.com", True, "/", "n")))
        told = Crumb("n", "v", "a.com", is_exact=False, path="/x", priority=2, is_secure=True, seen=7, space=HERE)
        self.assertEqual(rank_of(crumb=told), (2, True, 7, (HERE, "a.com", False, "/x", "n")))

    def test_groups(self):
        for host, family in (("a.com", "a.com"), ("x.y.a.com", "a.com"), ("com", "com"), ("x.far.a.com", "x.far.a.com"),
                             ("y.x.uk", "y.x.uk"), ("z.y.x.uk", "y.x.uk"), ("1.2.3.4", "1.2.3.4")):
            self.assertEqual(group_of(RULES, crumb("n", host)), (None, family))
        self.assertEqual(group_of(RULES, crumb("n", "x.a.com", is_secure=True, space=HERE)), (HERE, "a.com"))
        self.assertEqual(group_of(rules=RULES, crumb=crumb("n", "x.a.com", is_secure=True, same="none", space=THERE)),
                         (THERE, "a.com"))


class SweptTest(unittest.TestCase):
    def test_what_is_left(self):
        crumbs = (crumb("d", ends=9), crumb("c"), crumb("b", ends=8), crumb("a", ends=9), crumb("e", ends=10), crumb("f", ends=9))
        for tick, left in ((7, "dcbaef"), (8, "dcaef"), (9, "ce"), (10, "c"), (LAST_TICK, "c")):
            found, keys = swept(crumbs, tick)
            self.assertEqual("".join(one.name for one in found), left)
            self.assertEqual([key[-1] for key in keys], [name for name in "badfe" if name not in left])
            self.assertEqual((type(found), type(keys)), (tuple, tuple))
        self.assertEqual(swept(crumbs=(), tick=0), ((), ()))

    def test_keys_in_order(self):
        crumbs = (crumb("n", ends=9), crumb("n", "x.a.com", ends=9), crumb("n", is_exact=False, ends=9),
                  crumb("n", path="/a", ends=9), crumb("m", ends=9), crumb("n", is_secure=True, space=HERE, ends=9))
        for order in (crumbs, crumbs[::-1], crumbs[2:] + crumbs[:2]):
            self.assertEqual(swept(order, 9)[1], tuple(sorted(one.key for one in crumbs)))


class GoesTest(unittest.TestCase):
    def check(self, crumbs, added, expected, most_of_family=2, most=3):
        names = {one.name: one.key for one in crumbs}
        gone = goes(RULES, tuple(crumbs), names[added], most_of_family=most_of_family, most=most)
        self.assertEqual(gone, names.get(expected))

    def test_nobody(self):
        self.check([crumb("a")], "a", None)
        self.check([crumb("a"), crumb("b")], "b", None)
        self.check([crumb("a"), crumb("b"), crumb("c", "b.com")], "a", None)
        self.check([crumb("a")], "a", None, 1, 1)

    def test_one_of_the_group(self):
        self.check([crumb("a"), crumb("b"), crumb("c", seen=6)], "c", "a")
        self.check([crumb("a"), crumb("b"), crumb("c")], "a", "a")
        self.check([crumb("a", "b.com", priority=0), crumb("b", seen=6), crumb("c"), crumb("d", seen=7)], "b", "c")
        self.check([crumb("a", "x.a.com"), crumb("b", "y.a.com", seen=4), crumb("c")], "c", "b")
        self.check([crumb("a"), crumb("b")], "b", "a", 1)

    def test_groups_are_of_one_partition_and_family(self):
        for other in (crumb("z", "b.com"), crumb("z", "x.far.a.com"), crumb("z", "ba.com"),
                      crumb("z", is_secure=True, space=HERE), crumb("z", "com")):
            crumbs = [crumb("a"), crumb("b"), other]
            self.check(crumbs, "a", None)
            self.check(crumbs, "z", None)
            self.check(crumbs + [crumb("c")], "c", "a")
        near = [crumb(name, is_secure=True, space=HERE, same="none") for name in "ab"]
        far = [crumb(name, is_secure=True, space=THERE, same="none") for name in "cd"]
        self.check(near + far, "a", None, 2, 4)
        self.check(near + far, "c", "c", 1, 4)
        self.check(near + far, "a", "a", 1, 4)

    def test_one_of_all(self):
        crumbs = [crumb("a", "x.com"), crumb("b", "y.com", seen=4), crumb("c", "z.com", seen=7), crumb("d", seen=3)]
        self.check(crumbs, "a", "d")
        self.check(crumbs[:3], "a", "b", 2, 2)
        self.check(crumbs, "d", "d")
        # One with a low priority goes first, even if it was just added.
        self.check(crumbs + [crumb("e", "v.com", seen=9, priority=0)], "e", "e", 2, 4)

    def test_the_group_comes_first(self):
        crumbs = [crumb("a", "x.com", priority=0), crumb("b"), crumb("c"), crumb("d")]
        self.check(crumbs, "d", "b")
        # If another group has too many, that does not count.
        self.check(crumbs, "a", "a")
        self.check(crumbs, "a", None, 2, 4)

    def test_ranks_decide(self):
        ranks = [{"priority": priority, "is_secure": is_secure, "seen": seen, "path": path}
                 for priority in (0, 1, 2) for is_secure in (False, True) for seen in (1, 2) for path in ("/", "/x")]
        for one, two in itertools.combinations(range(len(ranks)), 2):
            for order in (("a", "b"), ("b", "a")):
                crumbs = [crumb("a", **ranks[one]), crumb("b", **ranks[two])]
                self.check(crumbs, order[0], "a", 1, 3)
                self.check(crumbs, order[0], "a", 2, 1)
                self.check(crumbs[::-1], order[0], "a", 1, 3)

    def test_both_limits_hold_when_one_has_gone(self):
        numbers = random.Random(32)
        hosts = ("a.com", "x.a.com", "b.com", "x.far.a.com", "com")
        for _ in range(400):
            most_of_family, most = numbers.randint(1, 4), numbers.randint(1, 6)
            crumbs = ()
            for at in range(12):
                new = crumb(f"n{at}", numbers.choice(hosts), seen=numbers.randint(0, 3), priority=numbers.randint(0, 2))
                crumbs = (*crumbs, new)
                gone = goes(RULES, crumbs, new.key, most_of_family=most_of_family, most=most)
                crumbs = tuple(one for one in crumbs if one.key != gone)
                self.assertLessEqual(len(crumbs), most)
                families = [family_of(RULES, one.host) for one in crumbs]
                for family in families:
                    self.assertLessEqual(families.count(family), most_of_family)

    def test_what_is_passed_stays(self):
        crumbs = (crumb("a"), crumb("b"))
        goes(rules=RULES, crumbs=crumbs, key=crumbs[0].key, most_of_family=1, most=1)
        self.assertEqual(crumbs, (crumb("a"), remade(crumb("b"))))
        with self.assertRaises(TypeError):
            goes(RULES, crumbs, crumbs[0].key, 1, 1)


if __name__ == "__main__":
    unittest.main()
