"""[48]: jars have the same future exactly if their settled jars are equal, and separating deeds show where they do not."""

import random
import unittest

from crumbjar.crumbs import Crumb, remade
from crumbjar.futures import replayed, same_future, separating, settled
from crumbjar.jars import Jar
from crumbjar.words import LAST_TICK
from some_jars import RULES, like_jar, some_deeds, some_jar

NEAR, FAR, OTHER = (("https", "a.com"), False), (("https", "a.com"), True), (("https", "b.com"), True)
LOCAL = (("http", "localhost"), False)
BASE = Crumb("n", "1", "a.com", born=(5, 1), seen=50)
REST = (Crumb("r", "1", "a.com", born=(7, 3), seen=60), Crumb("s", "2", "b.com", born=(8, 3), seen=40, ends=9000))


class FutureTest(unittest.TestCase):
    def jar(self, *crumbs, tick=1000, **limits):
        return Jar(RULES, crumbs=crumbs, tick=tick, **limits)

    def check_apart(self, one, other, tick=1001):
        """Check that two jars are told to have other futures, and that it is shown; give the deeds that show it."""
        self.assertIs(same_future(one, other, tick), False)
        self.assertIs(same_future(other, one, tick), False)
        for first, second in ((one, other), (other, one), (settled(one, tick), other)):
            before = (first.copied(), first.log, second.copied(), second.log)
            deeds = separating(first, second, tick)
            self.assertIsInstance(deeds, tuple)
            ticks = [deed[-1] for deed in deeds]
            self.assertEqual(ticks, sorted(ticks))
            self.assertTrue(tick <= ticks[0] and ticks[-1] <= LAST_TICK)
            answers = replayed(first, deeds), replayed(second, deeds)
            self.assertNotEqual(*answers, deeds)
            self.assertEqual((first, first.log, second, second.log), before)
        return deeds

    def check_same(self, one, other, tick=1001):
        self.assertIs(same_future(one, other, tick), True)
        self.assertIs(same_future(other, one, tick), True)
        self.assertIsNone(separating(one, other, tick))
        for seed in range(20):
            deeds = some_deeds(random.Random(seed), tick, 20)
            self.assertEqual(replayed(one, deeds), replayed(other, deeds))


class DifferencesTest(FutureTest):
    def check_settings(self, crumb, apart, same=()):
        """Check settings with which a crumb leads to another future, and settings with which it does not."""
        for settings in apart:
            for rest in ((), REST):
                with self.subTest(settings=settings, rest=len(rest)):
                    self.check_apart(self.jar(crumb, *rest), self.jar(remade(crumb, **settings), *rest))
        for settings in same:
            self.check_same(self.jar(crumb, *REST), self.jar(remade(crumb, **settings), *REST))

    def test_nothing(self):
        self.check_same(self.jar(), self.jar(tick=5))
        self.check_same(self.jar(BASE, *REST), self.jar(*REST, BASE))
        self.check_same(self.jar(), self.jar(remade(BASE, ends=1001), remade(BASE, name="m", ends=900)))
        used = self.jar(BASE)
        used.close(1000)
        self.check_same(used, self.jar())

    def test_keys(self):
        for crumb in (
            BASE, remade(BASE, name="", value="v"), remade(BASE, name="k" * 4096, value=""), remade(BASE, name="k" * 4095, value=""),
            remade(BASE, is_exact=False), remade(BASE, path="/x/y"), remade(BASE, is_secure=True, space=NEAR), remade(BASE, host="1.2.3.4"),
            remade(BASE, is_secure=True, same="none", space=FAR), remade(BASE, is_secure=True, same="none", space=OTHER), remade(BASE, host="com"),
            remade(BASE, host="localhost", is_secure=True, space=LOCAL), remade(BASE, name="__Host-n", is_secure=True), remade(BASE, is_hidden=True),
            remade(BASE, name="", value="__Host-v", is_secure=True), remade(BASE, name="__secure-n", is_secure=True, is_exact=False),
            remade(BASE, is_secure=True, same="none", space=OTHER, is_exact=False, host="x.a.com"), remade(BASE, ends=1002),
        ):
            for rest in ((), REST):
                with self.subTest(key=crumb.key, rest=len(rest)):
                    self.check_apart(self.jar(crumb, *rest), self.jar(*rest))
        self.check_settings(BASE, ({"name": "m"}, {"host": "b.com"}, {"path": "/x"}, {"is_exact": False}, {"is_secure": True, "space": NEAR}))
        self.check_settings(remade(BASE, is_secure=True, same="none", space=FAR), ({"space": OTHER}, {"space": NEAR}, {"space": None}))

    def test_ends(self):
        self.check_settings(BASE, ({"ends": 1002}, {"ends": 9000}))
        self.check_settings(remade(BASE, ends=9000), ({"ends": 8999}, {"ends": 9001}, {"ends": 1002}))
        deeds = self.check_apart(self.jar(BASE), self.jar(remade(BASE, ends=9000)))
        self.assertEqual(deeds[-1][-1], 9000)
        top = LAST_TICK - 50
        late = remade(BASE, born=(top, 1), seen=top)
        self.check_apart(self.jar(late, tick=top), self.jar(remade(late, ends=LAST_TICK), tick=top), LAST_TICK)
        self.check_apart(self.jar(late, tick=top), self.jar(remade(late, ends=LAST_TICK), tick=top), top + 1)

    def test_values_and_looks(self):
        self.check_settings(BASE, ({"value": "2"}, {"value": ""}, {"is_hidden": True}, {"is_secure": True}, {"same": "strict"}),
                            ({"same": "lax"}, {"same": "default"}))
        self.check_settings(remade(BASE, is_secure=True, same="none"), ({"same": "lax"}, {"same": "strict"}, {"is_hidden": True}, {"value": "2"}))
        self.check_settings(remade(BASE, is_secure=True, same="none", space=OTHER), ({"value": "2"}, {"is_hidden": True}))
        self.check_settings(remade(BASE, is_secure=True, same="none", space=NEAR),
                            ({"value": "2"}, {"is_hidden": True}, {"same": "lax"}, {"same": "strict"}, {"same": "default"}))
        self.check_settings(remade(BASE, host="localhost", is_secure=True, space=LOCAL), ({"value": "2"}, {"is_hidden": True}, {"same": "none"}))
        young = remade(BASE, born=(990, 1), seen=990, is_secure=True)
        self.check_settings(young, ({"same": "lax"}, {"same": "none"}, {"same": "strict"}, {"value": "2"}))

    def test_values_that_other_crumbs_hide(self):
        # Both send the same pairs in the same order, but from other keys.
        one = (remade(BASE, value="1"), remade(BASE, is_exact=False, value="2", born=(5, 2)))
        other = (remade(BASE, value="2", born=(5, 2)), remade(BASE, is_exact=False, value="1", born=(5, 1)))
        self.check_apart(self.jar(*one), self.jar(*other))

    def test_young_births(self):
        young = remade(BASE, born=(900, 1), seen=950)
        for crumb in (young, remade(young, same="lax"), remade(young, is_secure=True, space=NEAR), remade(young, same="strict", ends=1002),
                      remade(young, is_hidden=True), remade(young, name="__Host-n", is_secure=True), remade(young, name="k" * 4096, value=""),
                      remade(young, host="localhost", is_secure=True, space=LOCAL), remade(young, name="", value="__secure-v", is_secure=True)):
            self.check_settings(crumb, ({"born": (899, 1)}, {"born": (901, 1)}, {"born": (882, 1)}, {"born": (5, 1)}, {"born": (881, 1)}),
                                ({"born": (900, 0)}, {"born": (900, 2)}))
        foreign = remade(young, is_secure=True, same="none", space=OTHER)
        self.check_settings(foreign, (), ({"born": (899, 1)}, {"born": (8, 1)}, {"born": (901, 1)}))
        self.check_settings(remade(BASE, born=(5, 1)), ({"born": (882, 1), "seen": 882},), ({"born": (6, 1)}, {"born": (0, 0)}, {"born": (7, 2)}))

    def test_young_births_near_the_last_tick(self):
        top = LAST_TICK - 10
        late = remade(BASE, born=(LAST_TICK - 119, 1), seen=top)
        for born, is_same in ((LAST_TICK - 118, True), (top, True), (LAST_TICK - 120, False), (LAST_TICK - 121, False)):
            for tick in (top + 1, LAST_TICK):
                other = self.jar(remade(late, born=(born, 1)), tick=top)
                if is_same:
                    self.check_same(self.jar(late, tick=top), other, tick)
                else:
                    self.check_apart(self.jar(late, tick=top), other, tick)

    def test_order_of_births(self):
        secure = remade(BASE, is_secure=True, same="none")
        for one, two in (
            (BASE, remade(BASE, name="m")), (BASE, remade(BASE, is_exact=False)), (BASE, remade(BASE, name="", value="v")),
            (remade(BASE, name="k" * 4095, value=""), remade(BASE, name="k" * 4095, value="", is_exact=False)),
            (remade(BASE, name="k" * 4096, value=""), remade(BASE, name="j" * 4096, value="", is_exact=False)),
            (remade(BASE, is_exact=False, host="a.com"), remade(BASE, host="x.y.a.com")), (secure, remade(secure, space=OTHER)),
            (remade(secure, space=OTHER), remade(secure, space=OTHER, name="m")), (secure, remade(secure, space=FAR, is_exact=False)),
            (secure, remade(secure, space=NEAR)), (remade(secure, host="x.a.com", is_exact=False), remade(secure, space=NEAR, is_exact=False)),
            (remade(BASE, host="localhost"), remade(BASE, host="localhost", is_secure=True, space=LOCAL)),
            (remade(BASE, is_hidden=True, same="strict"), remade(BASE, name="m", ends=1002)),
            (remade(BASE, name="__Host-n", is_secure=True), remade(BASE, name="__Secure-m", is_secure=True)),
            (remade(BASE, name="", value="v"), remade(BASE, name="", value="v", is_exact=False)),
        ):
            first, second = (one, remade(two, born=(5, 2))), (remade(one, born=(5, 2)), two)
            for rest in ((), REST):
                with self.subTest(one=one.key, two=two.key, rest=len(rest)):
                    self.check_apart(self.jar(*first, *rest), self.jar(*second, *rest))

    def test_order_of_a_young_birth_and_a_foreign_one(self):
        young = Crumb("y", "1", "a.com", is_secure=True, born=(950, 5), seen=980)
        foreign = Crumb("f", "1", "a.com", is_secure=True, same="none", space=OTHER, born=(949, 5), seen=980)
        for born in ((951, 1), (950, 6)):
            self.check_apart(self.jar(young, foreign), self.jar(young, remade(foreign, born=born)))
        self.check_same(self.jar(young, foreign), self.jar(young, remade(foreign, born=(950, 4))))

    def test_order_of_births_that_nothing_shows(self):
        secure = remade(BASE, is_secure=True, same="none")
        for one, two in (
            (BASE, remade(BASE, path="/x")), (BASE, remade(BASE, host="b.com")), (BASE, remade(BASE, host="x.a.com", is_exact=False)),
            (remade(BASE, name="k" * 4096, value=""), remade(BASE, name="k" * 4096, value="", is_exact=False)),
            (remade(secure, space=OTHER), remade(secure, space=FAR)), (remade(secure, space=NEAR), remade(secure, space=OTHER, name="m")),
            (remade(BASE, is_exact=False), remade(BASE, host="x.far.a.com")),
        ):
            first, second = (one, remade(two, born=(5, 2))), (remade(one, born=(5, 2)), two)
            self.check_same(self.jar(*first), self.jar(*second))

    def test_seens(self):
        other = remade(BASE, name="m", host="b.com")
        for limits in ({}, {"most": 2}, {"most": 2, "most_of_family": 1}, {"most": 150}, {"most_of_family": 1}):
            self.check_apart(self.jar(BASE, remade(other, seen=51), **limits), self.jar(BASE, remade(other, seen=49), **limits))
            self.check_same(self.jar(BASE, remade(other, seen=51), **limits), self.jar(BASE, remade(other, seen=999), **limits))
        self.check_apart(self.jar(BASE, remade(other, seen=50), *REST), self.jar(BASE, remade(other, seen=49), *REST))
        # The keys decide between equal ones, so here one is like the later one.
        self.check_same(self.jar(BASE, remade(other, seen=50)), self.jar(BASE, remade(other, seen=51)))
        for settings in ({"priority": 0}, {"is_secure": True}):
            apart = remade(other, **settings)
            self.check_same(self.jar(BASE, apart), self.jar(BASE, remade(apart, seen=900)))
        self.check_same(self.jar(BASE), self.jar(remade(BASE, seen=7)))

    def test_what_only_limits_see(self):
        self.check_settings(BASE, ({"priority": 0}, {"priority": 2}))
        local = remade(BASE, host="localhost")
        self.check_settings(local, ({"is_secure": True}, {"priority": 0}, {"priority": 2, "is_secure": True}))
        for limits in ({"most": 1}, {"most": 1, "most_of_family": 1}, {"most": 150}, {"most_of_family": 1}):
            self.check_apart(self.jar(local, **limits), self.jar(remade(local, is_secure=True), **limits))
            self.check_apart(self.jar(BASE, **limits), self.jar(remade(BASE, priority=2), **limits))
        # Fresh families are none of those that the jar has.
        full = [Crumb("n", "1", f"n{at}", born=(5, at), seen=50) for at in range(20)]
        self.check_apart(self.jar(*full, most=20), self.jar(remade(full[0], priority=2), *full[1:], most=20))
        self.check_apart(self.jar(*full, most=25), self.jar(*full[:3], remade(full[3], seen=51), *full[4:], most=25))

    def test_full_jars(self):
        crumbs = [Crumb(f"n{at}", "1", "a.com" if at < 250 else f"h{at}", born=(5, at), seen=50 + at) for at in range(300)]
        limits = {"most_of_family": 250, "most": 300}
        one = self.jar(*crumbs, **limits)
        turned = [remade(crumb, born=crumbs[401 - at].born) if at in (200, 201) else crumb for at, crumb in enumerate(crumbs)]
        self.check_apart(one, self.jar(*turned, **limits))
        self.check_apart(one, self.jar(*crumbs[:270], remade(crumbs[270], seen=900), *crumbs[271:], **limits))


class ByChanceTest(FutureTest):
    def test_all(self):
        found = {True: 0, False: 0}
        kinds = set()
        for seed in range(400):
            numbers = random.Random(seed)
            top = numbers.choice((1000, 1000, 1000, LAST_TICK - 300, LAST_TICK - 121, LAST_TICK - 60, LAST_TICK - 1))
            one = some_jar(numbers, top)
            other = like_jar(numbers, one)
            tick = min(LAST_TICK, top + numbers.choice((1, 1, 2, 10, 119, 120, 121, 500)))
            first, second = settled(one, tick), settled(other, tick)
            self.assertEqual(settled(first, tick), first)
            deeds = separating(one, other, tick)
            self.assertIs(same_future(one, other, tick), first == second)
            self.assertIs(deeds is None, first == second)
            found[first == second] += one != other
            if deeds is not None:
                self.assertNotEqual(replayed(one, deeds), replayed(other, deeds))
                kinds.add(deeds[-1][0])
                continue
            for _ in range(2):
                deeds = some_deeds(numbers, tick, 15)
                answers = replayed(one, deeds)
                self.assertEqual(replayed(other, deeds), answers)
                self.assertEqual(replayed(first, deeds), answers)
        self.assertGreater(min(found.values()), 50)
        self.assertEqual(kinds, {"receive", "look"})

    def test_deeds_lead_to_the_same_settled_jars(self):
        for seed in range(150):
            numbers = random.Random(seed)
            one = some_jar(numbers, 1000)
            other = settled(one, 1001)
            tick = 1001
            for deed in some_deeds(numbers, tick, 12):
                self.assertEqual(getattr(one, deed[0])(*deed[1:]), getattr(other, deed[0])(*deed[1:]))
                tick = deed[-1]
                for later in (1, 60, 120):
                    self.assertEqual(settled(one, tick + later), settled(other, tick + later))


if __name__ == "__main__":
    unittest.main()
