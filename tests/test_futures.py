"""[46] and [47]: deeds and their answers, keys that meet, and settled jars."""

import itertools
import unittest

from crumbjar.crumbs import Crumb, remade
from crumbjar.errors import BadDeeds, BadHost, BadJar, BadLedger, BadLine, BadRequest, BadRules, BadTick, Unlike
from crumbjar.futures import meets, replayed, same_future, separating, settled
from crumbjar.jars import Jar
from crumbjar.requests import Request
from crumbjar.words import LAST_TICK
from kinds import OTHERS

RULES = ("com", "far.a.com")
PAGE, SCRIPT = Request((("https", "a.com", "/"),)), Request((("https", "a.com", "/"),), by="script")
NEAR, FAR, OTHER = (("https", "a.com"), False), (("https", "a.com"), True), (("https", "b.com"), True)
KEY = ((), "a.com", True, "/", "n")


def key_with(space=(), host="a.com", is_exact=True, path="/", name="n"):
    return (space, host, is_exact, path, name)


class MeetsTest(unittest.TestCase):
    def check(self, right, key, other):
        self.assertIs(meets(RULES, key, other), right, (key, other))
        self.assertIs(meets(rules=RULES, other=key, key=other), right, (key, other))

    def test_paths_and_families(self):
        self.check(True, KEY, key_with(name="m"))
        self.check(False, KEY, key_with(name="m", path="/x"))
        self.check(False, key_with(path="/x"), key_with(name="m", path="/x/"))
        self.check(False, KEY, key_with(host="b.com", name="m"))
        below = key_with(is_exact=False, name="m")
        self.check(True, key_with(host="x.a.com"), below)
        # Another family, although the host is below.
        self.check(False, key_with(host="x.far.a.com"), below)
        self.assertIs(meets(("com",), key_with(host="x.far.a.com"), below), True)

    def test_spaces(self):
        for space in (NEAR, FAR, OTHER):
            self.check(True, KEY, key_with(space=space))
            self.check(True, key_with(space=space), key_with(space=space, name="m"))
        for space, other in itertools.combinations((NEAR, FAR, OTHER), 2):
            self.check(False, key_with(space=space), key_with(space=other, name="m"))

    def test_hosts(self):
        self.check(True, KEY, key_with(is_exact=False))
        self.check(True, key_with(is_exact=False), key_with(host="x.y.a.com"))
        self.check(True, key_with(is_exact=False), key_with(host="x.a.com", is_exact=False))
        self.check(False, KEY, key_with(host="x.a.com"))
        # The lower one is not exact, but the upper one is.
        self.check(False, KEY, key_with(host="x.a.com", is_exact=False))
        self.check(False, key_with(host="y.a.com", is_exact=False), key_with(host="x.a.com", is_exact=False))
        self.check(False, key_with(host="a.a.com", is_exact=False), key_with(host="xa.a.com"))
        self.check(True, key_with(host="1.2.3.4"), key_with(host="1.2.3.4", name="m"))
        self.check(False, key_with(host="1.2.3.4"), key_with(host="1.2.3.5", name="m"))

    def test_names(self):
        for many, right in ((0, True), (1, True), (4095, True), (4096, False)):
            self.check(right, key_with(name="k" * many), key_with(name="k" * many, is_exact=False))
            self.check(right, key_with(name="k" * many), key_with(name="k" * many))
        self.check(True, key_with(name="k" * 4096), key_with(name="K" * 4096))
        self.check(True, key_with(name="k" * 4096), key_with(name="k" * 4095, is_exact=False))

    def test_errors(self):
        for value in OTHERS:
            if value not in ((), ("http",), ("http", "a.com")):
                with self.assertRaises(BadRules):
                    meets(value, None, None)
            for key, other in ((value, value), (value, KEY), (KEY, value), (value, None)):
                with self.assertRaises(BadLedger) as caught:
                    meets(RULES, key, other)
                self.assertIs(caught.exception.given, value)
        for key in (key_with(host="A.com"), key_with(is_exact=1), key_with(space=None), KEY + (1,)):
            with self.assertRaises(BadLedger) as caught:
                meets(RULES, KEY, key)
            self.assertIs(caught.exception.given, key)


class SettledTest(unittest.TestCase):
    def settled_crumbs(self, crumbs, tick, at=1000):
        jar = Jar(RULES, crumbs=tuple(crumbs), tick=at)
        told = settled(jar, tick)
        self.assertEqual((told.rules, told.most_of_family, told.most, told.tick, told.log), (RULES, 20, 60, tick - 1, ()))
        self.assertEqual(told.deeds, len(told.crumbs))
        self.assertEqual(settled(told, tick), told)
        return {crumb.name: crumb for crumb in told.crumbs}

    def births(self, crumbs, tick, at=1000):
        return {name: crumb.born for name, crumb in self.settled_crumbs(crumbs, tick, at).items()}

    def test_rest_of_the_jar(self):
        jar = Jar(("com",), most_of_family=3, most=7, tick=50)
        told = settled(jar=jar, tick=51)
        self.assertEqual(told, Jar(("com",), most_of_family=3, most=7, tick=50))
        self.assertIsNot(told, jar)
        self.assertEqual(settled(Jar((), tick=LAST_TICK - 1), LAST_TICK).tick, LAST_TICK - 1)

    def test_ended(self):
        crumb = Crumb("n", "1", "a.com", seen=900)
        crumbs = [remade(crumb, name=f"n{ends}", ends=ends) for ends in (999, 1000, 1001, 1002, None)]
        self.assertEqual(list(self.settled_crumbs(crumbs, 1001)), ["n1002", "nNone"])
        self.assertEqual(self.settled_crumbs(crumbs, 1001)["n1002"].ends, 1002)

    def test_young_at_119_120_and_121(self):
        for space, is_secure, same in ((None, False, "default"), (NEAR, True, "default"), (None, False, "lax"), (FAR, True, "none")):
            for age in (0, 119, 120, 121, 500):
                born = 1010 - age if age else 1000
                crumb = Crumb("n", "1", "a.com", is_secure=is_secure, same=same, space=space, born=(born, 7), seen=1000)
                told = self.settled_crumbs([crumb], 1010)["n"]
                is_young = age < 120 and space != FAR
                self.assertEqual(told.born, (born if is_young else 0, 1), (space, age))
                self.assertEqual(told.same, "lax" if same == "default" and not is_young else same)
                self.assertEqual(told.seen, told.born[0])
                self.assertEqual(remade(told, born=crumb.born, seen=1000, same=same), crumb)

    def test_near_the_last_tick(self):
        top = LAST_TICK - 1
        crumbs = [Crumb(f"n{back}", "1", "a.com", born=(LAST_TICK - back, 9 - at), seen=top)
                  for at, back in enumerate((121, 120, 119, 118, 50, 1))]
        told = self.settled_crumbs(crumbs, LAST_TICK, top)
        self.assertEqual({name: crumb.born for name, crumb in told.items()}, {
            "n121": (0, 1), "n120": (0, 2), "n119": (LAST_TICK - 119, 3), "n118": (LAST_TICK - 119, 4),
            "n50": (LAST_TICK - 119, 5), "n1": (LAST_TICK - 119, 6)})
        self.assertEqual([told[name].same for name in ("n120", "n119")], ["lax", "default"])

    def test_old_births_follow_those_they_meet(self):
        young = Crumb("y", "1", "a.com", is_secure=True, born=(950, 1), seen=950)
        late = Crumb("f", "1", "a.com", is_secure=True, same="none", space=OTHER, born=(960, 1), seen=960)
        self.assertEqual(self.births([young, late], 1001), {"y": (950, 1), "f": (950, 2)})
        # Born earlier, in another space or at another path, it follows nobody.
        self.assertEqual(self.births([young, remade(late, born=(949, 9))], 1001), {"f": (0, 1), "y": (950, 2)})
        self.assertEqual(self.births([remade(young, path="/x"), late], 1001), {"f": (0, 1), "y": (950, 2)})
        self.assertEqual(self.births([remade(young, space=NEAR), late], 1001), {"f": (0, 1), "y": (950, 2)})
        # By way of one that it meets.
        more = remade(late, name="g", host="x.a.com", born=(970, 1), seen=970)
        middle = remade(late, is_exact=False)
        self.assertEqual(self.births([young, middle, more], 1001), {"y": (950, 1), "f": (950, 2), "g": (950, 3)})
        self.assertEqual(self.births([young, late, more], 1001), {"g": (0, 1), "y": (950, 2), "f": (950, 3)})
        # The greatest of several.
        later = remade(young, name="z", born=(955, 1), seen=955)
        self.assertEqual(self.births([young, later, late], 1001), {"y": (950, 1), "z": (955, 2), "f": (955, 3)})
        # One that has ended is not there.
        self.assertEqual(self.births([remade(young, ends=1001), late], 1001), {"f": (0, 1)})

    def test_equal_births_go_by_keys(self):
        young = Crumb("y", "1", "a.com", is_secure=True, born=(950, 1), seen=950)
        foreign = Crumb("f", "1", "a.com", is_secure=True, same="none", space=OTHER, is_exact=False, born=(960, 1), seen=960)
        self.assertEqual(self.births([young, foreign, remade(foreign, name="g", host="x.a.com", is_exact=True)], 1001),
                         {"y": (950, 1), "f": (950, 2), "g": (950, 3)})
        same = [Crumb(name, "1", "a.com", born=(5, 5), seen=5) for name in "cab"]
        self.assertEqual(self.births(same, 1001), {"a": (0, 1), "b": (0, 2), "c": (0, 3)})

    def test_numbers(self):
        # Who meets nobody comes by key, whatever the birth was.
        apart = [Crumb(name, "1", "a.com", path="/" + name, born=(tick, 1), seen=tick) for name, tick in zip("abcd", (9, 5, 7, 6))]
        self.assertEqual([born[1] for _, born in sorted(self.births(apart, 1001).items())], [1, 2, 3, 4])
        # Who meets another one waits for it.
        crumbs = apart + [Crumb("e", "1", "a.com", path="/a", born=(3, 1), seen=3), Crumb("0", "1", "a.com", path="/c", born=(8, 1), seen=8)]
        self.assertEqual(self.births(crumbs, 1001),
                         {"e": (0, 1), "a": (0, 2), "b": (0, 3), "c": (0, 4), "0": (0, 5), "d": (0, 6)})
        young = [Crumb("z", "1", "a.com", born=(950, 8), seen=950), Crumb("x", "1", "a.com", born=(951, 2), seen=951),
                 Crumb("y", "1", "a.com", born=(950, 9), seen=950), Crumb("w", "1", "b.com", born=(950, 99), seen=950)]
        self.assertEqual(self.births(young, 1001), {"z": (950, 1), "y": (950, 2), "w": (950, 3), "x": (951, 4)})

    def test_seens_go_as_low_as_they_can(self):
        crumb = Crumb("n", "1", "a.com", seen=900)
        names = ("a", "b", "c", "d")
        for seens, told in (((900, 900, 900, 900), (0, 0, 0, 0)), ((1, 2, 3, 4), (0, 0, 0, 0)), ((4, 3, 2, 1), (3, 2, 1, 0)),
                            ((5, 5, 4, 4), (1, 1, 0, 0)), ((5, 4, 5, 4), (1, 0, 1, 0)), ((0, 0, 0, 0), (0, 0, 0, 0))):
            crumbs = [remade(crumb, name=name, seen=seen) for name, seen in zip(names, seens)]
            settled_ones = self.settled_crumbs(crumbs, 1001)
            self.assertEqual(tuple(settled_ones[name].seen for name in names), told, seens)

    def test_seens_are_held_by_births_and_ends(self):
        far = 34560000
        crumb = Crumb("b", "1", "a.com", seen=900)
        before, behind = remade(crumb, name="a"), remade(crumb, name="c")
        for settings, told in (({"ends": 1002}, 0), ({"ends": far + 900}, 900), ({"ends": far + 899}, 899), ({"ends": far + 1}, 1),
                               ({"ends": far}, 0), ({"born": (890, 1)}, 890), ({"born": (881, 1)}, 0), ({"born": (882, 1)}, 882),
                               ({"born": (890, 1), "ends": far + 895}, 895), ({"born": (890, 1), "ends": far + 885}, 890)):
            changed = remade(crumb, **settings)
            seens = {name: one.seen for name, one in self.settled_crumbs([before, changed, behind], 1001).items()}
            self.assertEqual(seens, {"a": 0, "b": told, "c": told}, settings)
            # One with a lesser key behind it in the order needs a tick more.
            seens = {name: one.seen for name, one in self.settled_crumbs([changed, remade(before, seen=901)], 1001).items()}
            self.assertEqual(seens, {"a": told + 1, "b": told}, settings)

    def test_seens_of_other_kinds_are_apart(self):
        crumb = Crumb("z", "1", "a.com", seen=900, born=(890, 1))
        for settings in ({"priority": 0}, {"priority": 2}, {"is_secure": True}):
            other = remade(crumb, name="a", born=(0, 0), seen=905, **settings)
            self.assertEqual({name: one.seen for name, one in self.settled_crumbs([crumb, other], 1001).items()}, {"z": 890, "a": 0})
        self.assertEqual({name: one.seen for name, one in self.settled_crumbs(
            [crumb, remade(crumb, name="a", born=(0, 0), seen=905)], 1001).items()}, {"z": 890, "a": 891})

    def test_errors(self):
        jar = Jar(RULES, tick=50)
        for value in OTHERS:
            with self.assertRaises(BadJar) as caught:
                settled(value, value)
            self.assertIs(caught.exception.given, value)
            with self.assertRaises(BadTick) as caught:
                settled(jar, value)
            self.assertIs(caught.exception.given, value)
        for tick in (50, 49, -1, LAST_TICK + 1):
            with self.assertRaises(BadTick):
                settled(jar, tick)
        with self.assertRaises(BadTick):
            settled(Jar((), tick=LAST_TICK), LAST_TICK)


class ReplayedTest(unittest.TestCase):
    def test_answers(self):
        jar = Jar(RULES, crumbs=(Crumb("o", "1", "b.com", is_exact=False),), tick=5)
        before = jar.copied()
        deeds = (("receive", PAGE, "n=1", 6), ("write", SCRIPT, "n=2", 6), ("look", PAGE, 7), ("receive", PAGE, "m=2; Max-Age=9", 7),
                 ("receive", PAGE, "x=2; Max-Age=0", 7), ("receive", PAGE, "n=2; Domain=com", 7), ("clear", "b.com", 7), ("close", 8))
        answers = ["set", "changed", (("n", "2"),), "set", "nothing", "public", (((), "b.com", False, "/", "o"),), (KEY,)]
        self.assertEqual(replayed(jar, deeds), answers)
        self.assertEqual(replayed(jar=jar, deeds=list(deeds)), answers)
        self.assertEqual(replayed(jar, []), [])
        self.assertEqual((jar, jar.log), (before, before.log))

    def test_bad_deeds(self):
        jar = Jar(RULES, tick=5)
        right = ("look", PAGE, 6)
        for value in OTHERS:
            if not isinstance(value, (list, tuple)):
                with self.assertRaises(BadDeeds) as caught:
                    replayed(jar, value)
                self.assertIsNone(caught.exception.index)
            with self.assertRaises(BadDeeds) as caught:
                replayed(jar, [right, right, value, None])
            self.assertEqual(caught.exception.index, 2)
        for deed in (("receive", PAGE, "n=1"), ("receive", PAGE, "n=1", 6, 7), ("write", SCRIPT, 6), ("look", PAGE), ("look", 6, 7, 8),
                     ("close",), ("close", PAGE, 6), ("clear", 6), ("clear", "a.com", 6, 7), ("Look", PAGE, 6), ("", PAGE, 6), (), ("wait", 6),
                     (None, PAGE, 6), (["look"], PAGE, 6), ["look", PAGE, 6], (b"look", PAGE, 6), ({}, 6), "look"):
            for deeds in ((deed,), [deed, right], (right, deed)):
                with self.assertRaises(BadDeeds) as caught:
                    replayed(jar, deeds)
                self.assertEqual(caught.exception.index, list(deeds).index(deed))
        self.assertEqual((jar.deeds, jar.tick), (0, 5))

    def test_bad_deeds_are_told_ahead_of_what_the_jar_raises(self):
        jar = Jar(RULES, tick=5)
        with self.assertRaises(BadDeeds) as caught:
            replayed(jar, [("look", PAGE, 4), ("look", PAGE)])
        self.assertEqual(caught.exception.index, 1)
        with self.assertRaises(BadJar):
            replayed(None, [None])

    def test_then_as_the_jar(self):
        jar = Jar(RULES, tick=5)
        for deeds, error, field in (
            ([("look", PAGE, 7), ("look", PAGE, 6)], BadTick, 6), ([("look", PAGE, 4)], BadTick, 4), ([("look", None, None)], BadRequest, "request"),
            ([("receive", SCRIPT, None, None)], BadRequest, "by"), ([("write", PAGE, "n", 7)], BadRequest, "by"),
            ([("receive", PAGE, None, None)], BadLine, "text"), ([("close", True)], BadTick, True), ([("clear", "A", None)], BadHost, 1),
            ([("receive", PAGE, "n=1", 6), ("write", SCRIPT, "n=1", 7), ("close", 5)], BadTick, 5),
        ):
            with self.assertRaises(error) as caught:
                replayed(jar, deeds)
            self.assertEqual(list(vars(caught.exception).values()), [field])
        self.assertEqual((jar.deeds, jar.tick, jar.crumbs, jar.log), (0, 5, (), ()))
        for value in OTHERS:
            with self.assertRaises(BadJar) as caught:
                replayed(value, [])
            self.assertIs(caught.exception.given, value)


class UnlikeTest(unittest.TestCase):
    def test_errors_in_their_order(self):
        jar, later = Jar(RULES, tick=50), Jar(("com",), most=5, most_of_family=5, tick=60)
        for function in (same_future, separating):
            for value in OTHERS:
                for one, other in ((value, value), (value, jar), (jar, value), (value, None)):
                    with self.assertRaises(BadJar) as caught:
                        function(one, other, None)
                    self.assertIs(caught.exception.given, value)
                with self.assertRaises(BadTick) as caught:
                    function(jar, later, value)
                self.assertIs(caught.exception.given, value)
            for one, other in ((jar, later), (later, jar)):
                for tick in (50, 60, LAST_TICK + 1):
                    with self.assertRaises(BadTick):
                        function(one, other, tick)
                with self.assertRaises(Unlike) as caught:
                    function(one, other, 61)
                self.assertEqual(caught.exception.field, "rules")
            for field, settings in (("rules", {"rules": RULES[::-1]}), ("most_of_family", {"most_of_family": 5, "most": 5}), ("most", {"most": 5})):
                with self.assertRaises(Unlike) as caught:
                    function(jar, Jar(**{"rules": RULES, **settings}), 61)
                self.assertEqual(caught.exception.field, field)
        self.assertIs(same_future(one=jar, other=Jar(RULES), tick=51), True)
        self.assertIsNone(separating(tick=51, other=Jar(RULES), one=jar))


if __name__ == "__main__":
    unittest.main()
