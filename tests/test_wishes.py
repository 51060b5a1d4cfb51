"""[60] and [62] to [64], and the facts of [62] and [66]: the lines for a wish, and when it is not granted."""

import itertools
import random
import unittest

from crumbjar.crumbs import Crumb, remade
from crumbjar.errors import BadCrumb, BadRequest, BadTick, BadWish, NoWish
from crumbjar.jars import Jar
from crumbjar.lines import read_line, write_line
from crumbjar.requests import Request
from crumbjar.shelves import best_row, easiest, fewest
from crumbjar.wishes import grant, lines_for, shelf_of, why_not
from crumbjar.words import LAST_TICK
from kinds import OTHERS

RULES = ("com",)
TARGET = ("https", "www.a.com", "/x/y")
PAGE, SCRIPT = Request((TARGET,)), Request((TARGET,), by="script")
NEAR = (("https", "a.com"), False)
BASE = Crumb("n", "1", "www.a.com", born=(1, 1), seen=3)


def jar_of(*crumbs, tick=4, **limits):
    return Jar(RULES, crumbs=crumbs, tick=tick, **limits)


class ShelfTest(unittest.TestCase):
    def test_shelves(self):
        self.assertEqual(shelf_of(Jar(()), PAGE, 5), (4, ()))
        self.assertEqual(shelf_of(tick=5, request=Request((("http", "b", "/"),)), jar=Jar(())), (1, ()))
        jar = jar_of(BASE, remade(BASE, name="m", value="2", path="/x", born=(2, 1)), remade(BASE, name="", value="3", path="/x", is_exact=False),
                     remade(BASE, name="z", value="", path="/x/y", born=(3, 1)), remade(BASE, name="other", path="/z"), remade(BASE, name="b", host="a.com"),
                     remade(BASE, name="h", is_hidden=True), remade(BASE, name="e", ends=6), remade(BASE, name="f", ends=5))
        before = jar.copied()
        self.assertEqual(shelf_of(jar, PAGE, 5), (4, ((4, "z", ""), (2, "", "3"), (2, "m", "2"), (1, "e", "1"), (1, "h", "1"), (1, "n", "1"))))
        self.assertEqual(shelf_of(jar, SCRIPT, 5)[1][3:], ((1, "e", "1"), (1, "n", "1")))
        self.assertEqual((jar, jar.log), (before, before.log))


class WhyNotTest(unittest.TestCase):
    FAR = Request((TARGET,), starter=("https", "b.com"))
    UNSAFE = Request((("http", "www.a.com", "/"),))

    def check(self, word, jar, request, wish, tick=5):
        before = jar.copied()
        self.assertEqual(why_not(jar, request, wish, tick), word)
        if word is None:
            self.assertIsInstance(lines_for(jar, request, wish, tick), tuple)
        else:
            for call in (lines_for, grant):
                with self.assertRaises(NoWish) as caught:
                    call(jar, request, wish, tick)
                self.assertEqual(caught.exception.given, word)
        self.assertEqual((jar, jar.log), (before, before.log))

    def test_requests(self):
        jar, wish = Jar(RULES), (("a", "1"),)
        self.check(None, jar, PAGE, wish)
        self.check("script", jar, SCRIPT, wish)
        for request in (self.FAR, Request((("https", "b.com", "/"), TARGET)), Request((TARGET,), frames=(("https", "b.com"),)),
                        Request((("http", "www.a.com", "/"), TARGET)), Request((TARGET,), starter=("https", "com"))):
            self.check("far", jar, request, wish)
        self.check("unsafe", jar, self.UNSAFE, wish)
        for request in (Request((("http", "x.localhost", "/"),)), Request((TARGET,), starter=("https", "a.com"), is_reading=False),
                        Request((TARGET,), frames=(("https", "x.a.com"), ("https", "a.com"))), Request((("https", "a.com", "/"), TARGET))):
            self.check(None, jar, request, wish)
        self.assertIsNone(why_not(tick=5, wish=(), request=PAGE, jar=jar))

    def test_two_words_at_once(self):
        jar = jar_of(remade(BASE, host="b.com"), most=1)
        wish = (("a", "1"),)
        self.check("script", jar, Request((("http", "www.a.com", "/"),), frames=(("https", "b.com"),), by="script"), wish)
        self.check("script", jar, SCRIPT, wish)
        self.check("far", jar, Request((("http", "www.a.com", "/"),), starter=("https", "b.com")), wish)
        self.check("far", jar, self.FAR, wish)
        self.check("unsafe", jar, self.UNSAFE, wish)
        self.check("many", jar, PAGE, wish)

    def wish(self, many):
        return tuple((f"n{at}", "1") for at in range(many))

    def test_most(self):
        shelved = [remade(BASE, name=f"s{at}") for at in range(3)]
        away = [remade(BASE, name=f"o{at}", host="b.com") for at in range(2)] + [remade(BASE, path="/z")]
        for ended in ((), (remade(BASE, host="b.com", ends=5),)):
            jar = jar_of(*shelved, *away, *ended, most=8)
            for many in range(8):
                self.check(None if many <= 5 else "many", jar, PAGE, self.wish(many))
        jar = jar_of(*away, remade(BASE, host="b.com", ends=5), most=4)
        self.check(None, jar, PAGE, self.wish(1))
        self.check("many", jar, PAGE, self.wish(2))
        self.check("many", jar, PAGE, self.wish(1), 4)

    def test_most_of_family(self):
        others = (remade(BASE, path="/z"), remade(BASE, host="x.a.com"))
        shelved = (remade(BASE, name="s"), remade(BASE, name="t", is_exact=False))
        not_counted = (remade(BASE, host="b.com"), remade(BASE, is_secure=True, space=NEAR, path="/z"), remade(BASE, path="/z", name="m", ends=5),
                       remade(BASE, is_secure=True, same="none", space=(("https", "b.com"), True)))
        for more in ((), not_counted):
            jar = jar_of(*others, *shelved, *more, most_of_family=5)
            for many in range(6):
                self.check(None if many <= 3 else "many", jar, PAGE, self.wish(many))

    def test_a_wish_of_nothing(self):
        self.check(None, jar_of(BASE, most=1, most_of_family=1), PAGE, ())
        self.check(None, jar_of(remade(BASE, host="b.com"), most=1, most_of_family=1), PAGE, ())

    def test_errors_in_their_order(self):
        jar = jar_of(BASE)
        before = jar.copied()
        for function in (why_not, lines_for, grant):
            for value in OTHERS:
                with self.assertRaises(BadRequest) as caught:
                    function(jar, value, value, value)
                self.assertEqual(caught.exception.field, "request")
                with self.assertRaises(BadTick) as caught:
                    function(jar, SCRIPT, None, value if value != 7 else 3)
                if value != 7:
                    self.assertIs(caught.exception.given, value)
                if not isinstance(value, tuple):
                    with self.assertRaises(BadWish) as caught:
                        function(jar, SCRIPT, value, 5)
                    self.assertIsNone(caught.exception.index)
            for tick in (3, -1, LAST_TICK + 1, True):
                with self.assertRaises(BadTick):
                    function(jar, PAGE, (None,), tick)
            for wish, index in (((("a", "1"), None), 1), ((("a", "1"), ("a", "2")), 1), ((("", "1"),), 0), ((("a;", "1"),), 0), ((None,) * 61, None)):
                with self.assertRaises(BadWish) as caught:
                    function(jar, self.FAR, wish, 5)
                self.assertEqual(caught.exception.index, index)
        for value in OTHERS:
            with self.assertRaises(BadRequest):
                shelf_of(jar, value, value)
        for tick in (3, None, True, LAST_TICK + 1):
            with self.assertRaises(BadTick) as caught:
                shelf_of(jar, PAGE, tick)
            self.assertIs(caught.exception.given, tick)
        self.assertEqual((jar, jar.log), (before, before.log))


class LinesTest(unittest.TestCase):
    def check(self, jar, wish, *lines, request=PAGE, tick=5):
        """Check the lines for a wish, and that it is granted by them."""
        before = jar.copied()
        self.assertEqual(lines_for(jar, request, wish, tick), lines)
        self.assertEqual((jar, jar.log), (before, before.log))
        self.assertEqual(len(lines), fewest(shelf_of(jar, request, tick), wish))
        self.assertEqual(grant(jar, request, wish, tick), len(lines))
        self.assertEqual(jar.deeds, before.deeds + len(lines))
        self.assertNotIn("evicted", [row[2] for row in jar.log])
        for line in lines:
            self.assertEqual(write_line(read_line(line)), line)
        sent = jar.chosen(request, tick)
        self.assertEqual(tuple((crumb.name, crumb.value) for crumb in sent), wish)
        return sent

    def test_new_ones_alone(self):
        self.check(Jar(RULES), ())
        self.check(Jar(RULES), (("b", "1"), ("a", ""), ("__Host-c", "x=y")), "b=1; Path=/; Secure", "a=; Path=/; Secure", "__Host-c=x=y; Path=/; Secure")
        self.check(Jar(RULES), (("b", "1"),), "b=1; Path=/; Secure", request=Request((("https", "com", "/"),)))

    def test_crumbs_that_go(self):
        crumbs = (remade(BASE, name="e", path="/x/y", is_secure=True, is_hidden=True, priority=2, same="strict"),
                  remade(BASE, name="a", value="2", path="/x", is_exact=False, host="a.com", ends=90), remade(BASE, name="p", is_secure=True, space=NEAR, same="none"),
                  remade(BASE, name="", value="v", born=(2, 0)), remade(BASE, name="__Host-h", is_secure=True, born=(3, 0)),
                  remade(BASE, name="", value="__secure-v", is_secure=True, is_exact=False, born=(3, 1)))
        self.check(jar_of(*crumbs), (), "e=1; Max-Age=0; Path=/x/y; Secure", "a=2; Max-Age=0; Domain=a.com; Path=/x; Secure", "p=1; Max-Age=0; Path=/; Secure; Partitioned",
                   "=v; Max-Age=0; Path=/; Secure", "__Host-h=1; Max-Age=0; Path=/; Secure", "=__secure-v; Max-Age=0; Domain=www.a.com; Path=/; Secure")

    def test_what_is_sent_already(self):
        jar = jar_of(remade(BASE, path="/x"), remade(BASE, name="m"))
        self.check(jar, (("n", "1"), ("m", "1")))
        self.assertEqual((jar.deeds, jar.tick), (1, 4))

    def test_other_values(self):
        for settings, line in (
            ({}, "n=2; Path=/"), ({"ends": 90}, "n=2; Max-Age=85; Path=/"), ({"ends": 34560003}, "n=2; Max-Age=34559998; Path=/"), ({"ends": 6}, "n=2; Max-Age=1; Path=/"),
            ({"is_exact": False}, "n=2; Domain=www.a.com; Path=/"), ({"is_exact": False, "host": "a.com", "path": "/x"}, "n=2; Domain=a.com; Path=/x"),
            ({"is_secure": True}, "n=2; Path=/; Secure"), ({"is_hidden": True}, "n=2; Path=/; HttpOnly"), ({"same": "strict"}, "n=2; Path=/; SameSite=Strict"),
            ({"same": "lax"}, "n=2; Path=/; SameSite=Lax"), ({"same": "none", "is_secure": True}, "n=2; Path=/; Secure; SameSite=None"),
            ({"space": NEAR, "is_secure": True}, "n=2; Path=/; Secure; Partitioned"), ({"priority": 0}, "n=2; Path=/; Priority=Low"), ({"priority": 2}, "n=2; Path=/; Priority=High"),
            ({"space": NEAR, "is_secure": True, "is_hidden": True, "same": "none", "priority": 2, "ends": 50, "is_exact": False, "path": "/x/y"},
             "n=2; Max-Age=45; Domain=www.a.com; Path=/x/y; Secure; HttpOnly; SameSite=None; Partitioned; Priority=High"),
            ({"is_secure": True, "name": "__Host-n"}, "__Host-n=2; Path=/; Secure"),
        ):
            crumb = remade(BASE, **settings)
            sent = self.check(jar_of(crumb), ((crumb.name, "2"),), line)
            self.assertEqual(sent, (remade(crumb, value="2", seen=5),))

    def test_where_new_ones_stand(self):
        deep, middle, low = remade(BASE, name="d", path="/x/y"), remade(BASE, name="m", path="/x"), remade(BASE, name="l")
        self.check(jar_of(deep, middle, low), (("d", "1"), ("a", "1"), ("b", "1"), ("m", "1"), ("c", "1"), ("l", "1"), ("e", "1"), ("__Host-f", "1")),
                   "a=1; Path=/x/y; Secure", "b=1; Path=/x/y; Secure", "c=1; Path=/x; Secure", "e=1; Path=/; Secure", "__Host-f=1; Path=/; Secure")
        # In front of all of them: the target's path.
        self.check(jar_of(middle), (("a", "1"), ("b", "1"), ("m", "1")), "a=1; Path=/x/y; Secure", "b=1; Path=/x/y; Secure")
        # One that is as deep as the target has no place in front of it.
        self.check(jar_of(deep), (("a", "1"), ("d", "1")), "d=1; Max-Age=0; Path=/x/y; Secure", "a=1; Path=/; Secure", "d=1; Path=/; Secure")
        # Behind all of them, and without any: /.
        self.check(jar_of(deep), (("d", "1"), ("a", "1")), "a=1; Path=/; Secure")

    def test_low_names(self):
        middle, low = remade(BASE, name="m", path="/x"), remade(BASE, name="l")
        self.check(jar_of(middle, low), (("__Host-a", "1"), ("m", "1")), "m=1; Max-Age=0; Path=/x; Secure", "l=1; Max-Age=0; Path=/; Secure",
                   "__Host-a=1; Path=/; Secure", "m=1; Path=/; Secure")
        self.check(jar_of(middle, low), (("m", "1"), ("__HOST-a", "1"), ("l", "1")), "l=1; Max-Age=0; Path=/; Secure", "__HOST-a=1; Path=/; Secure", "l=1; Path=/; Secure")
        self.check(jar_of(middle, low), (("m", "1"), ("__Secure-a", "1"), ("l", "1"), ("__host-b", "")), "__Secure-a=1; Path=/x; Secure", "__host-b=; Path=/; Secure")
        self.check(jar_of(remade(low, name="__Host-l", is_secure=True), middle), (("a", "1"), ("__Host-l", "1")), "m=1; Max-Age=0; Path=/x; Secure", "a=1; Path=/x/y; Secure")

    def test_the_least_row(self):
        one, two = remade(BASE, name="a"), remade(BASE, name="a", is_exact=False)
        # Both have one name and path: the one born earlier stays, and the exact one comes later by key.
        self.check(jar_of(one, two), (("a", "1"),), "a=1; Max-Age=0; Path=/; Secure")
        self.check(jar_of(remade(one, value="2"), two), (("a", "1"),), "a=2; Max-Age=0; Path=/; Secure")

    def test_removed_lines_come_first(self):
        crumbs = (remade(BASE, name="a", path="/x/y"), remade(BASE, name="b", path="/x", value="2"), remade(BASE, name="c"))
        self.check(jar_of(*crumbs, most=3, most_of_family=3), (("b", "1"), ("a", "1"), ("z", "1")), "a=1; Max-Age=0; Path=/x/y; Secure", "c=1; Max-Age=0; Path=/; Secure",
                   "b=1; Path=/x", "a=1; Path=/; Secure", "z=1; Path=/; Secure")

    def test_requests_of_other_kinds(self):
        wish = (("s", "2"), ("p", "1"))
        crumbs = (remade(BASE, name="s", same="strict"), remade(BASE, name="p", is_secure=True, space=NEAR, born=(2, 2)))
        for request in (Request((TARGET,), frames=(("https", "a.com"),) * 2), Request((TARGET, TARGET), starter=("https", "x.a.com"), is_reading=False)):
            self.check(jar_of(*crumbs), wish, "s=2; Path=/; SameSite=Strict", request=request)
        local = (("http", "localhost"), False)
        jar = jar_of(Crumb("p", "1", "localhost", is_secure=True, space=local), Crumb("q", "1", "localhost"))
        self.check(jar, (("q", "1"), ("p", "2")), "p=2; Path=/; Secure; Partitioned", request=Request((("http", "localhost", "/x"),)))

    def test_by_chance(self):
        kept, new = 0, 0
        for seed in range(300):
            numbers = random.Random(seed)
            crumbs = {}
            for _ in range(numbers.randint(0, 50)):
                try:
                    crumb = Crumb(
                        numbers.choice(("a", "b", "c", "d", "__Host-e", "")), numbers.choice("12"), numbers.choice(("a.com", "www.a.com", "x.www.a.com", "b.com")),
                        is_exact=numbers.random() < 0.6, path=numbers.choice(("/", "/", "/x", "/x/y", "/z")), is_secure=numbers.random() < 0.5,
                        is_hidden=numbers.random() < 0.3, same=numbers.choice(("default", "lax", "strict", "none")), priority=numbers.randint(0, 2),
                        space=numbers.choice((None, None, NEAR)), born=(numbers.randint(0, 3), numbers.randint(0, 9)), seen=3, ends=numbers.choice((None, 5, 9, 5000)))
                except BadCrumb:
                    continue
                crumbs[crumb.key] = crumb
            jar = Jar(RULES, crumbs=tuple(crumbs.values())[:numbers.randint(0, 9)], tick=4)
            names = numbers.sample(("a", "b", "c", "d", "__Host-e", "__hosT-f", "__Secure-g", "h"), numbers.randint(0, 6))
            wish = tuple((name, numbers.choice("12")) for name in names)
            if numbers.random() < 0.5:
                wish = easiest(shelf_of(jar, PAGE, 5), dict(wish))
            lines = lines_for(jar, PAGE, wish, 5)
            row = best_row(shelf_of(jar, PAGE, 5), wish)
            others = [crumb for crumb in jar.crumbs if crumb not in jar.chosen(PAGE, 5) and (crumb.ends or 9) > 5]
            staying = [jar.chosen(PAGE, 5)[i] for i, _ in row]
            self.check(jar, wish, *lines)
            for crumb in others:
                self.assertIn(crumb, jar.crumbs)
            for crumb in staying:
                self.assertEqual(remade(jar.crumb_at(crumb.key), value=crumb.value, seen=3), crumb)
            kept += len(row)
            new += len(wish) - len(row)
        self.assertGreater(min(kept, new), 50)


class FactsTest(unittest.TestCase):
    TARGET = ("https", "a.com", "/x")
    REQUEST = Request((TARGET,))

    def reached(self, jar, many, lines):
        """The answers to which so many lines lead without an eviction."""
        states, answers = [jar], {self.answer(jar)}
        known = set()
        for _ in range(many):
            further = []
            for state, line in itertools.product(states, lines):
                after = state.copied()
                after.receive(self.REQUEST, line, 5)
                order = tuple((crumb.key, crumb.value) for crumb in sorted(after.crumbs, key=lambda crumb: crumb.born))
                if order not in known and "evicted" not in [row[2] for row in after.log]:
                    known.add(order)
                    further.append(after)
                    answers.add(self.answer(after))
            states = further
        return answers

    def answer(self, jar):
        return tuple((crumb.name, crumb.value) for crumb in jar.chosen(self.REQUEST, 5))

    def some_jar(self, numbers, names, many):
        crumbs = {}
        for at in range(many):
            crumb = Crumb(numbers.choice(names), numbers.choice("12"), "a.com", is_exact=numbers.random() < 0.7, path=numbers.choice(("/", "/x")), born=(1, at), seen=1)
            crumbs[crumb.key] = crumb
        return Jar((), crumbs=tuple(crumbs.values()), tick=4)

    def test_no_fewer_lines(self):
        names = ("a", "b")
        lines = [f"{name}={value}; Path={path}{domain}{age}" for name in names for path in ("/", "/x") for domain in ("", "; Domain=a.com")
                 for value, age in (("1", ""), ("2", ""), ("1", "; Max-Age=0"))]
        counts = {}
        for seed in range(60):
            numbers = random.Random(seed)
            jar = self.some_jar(numbers, names, numbers.randint(0, 3))
            wish = tuple((name, numbers.choice("12")) for name in numbers.sample(names, numbers.randint(0, 2)))
            many = fewest(shelf_of(jar, self.REQUEST, 5), wish)
            if 1 <= many <= 3:
                self.assertNotIn(wish, self.reached(jar, many - 1, lines))
            counts[many] = counts.get(many, 0) + 1
        self.assertGreater(counts[2] + counts[3], 20)

    def test_by_way_of_another_wish(self):
        names = ("a", "b", "c", "__Host-d")
        for seed in range(200):
            numbers = random.Random(seed)
            jar = self.some_jar(numbers, names[:3], numbers.randint(0, 4))
            wishes = [tuple((name, numbers.choice("12")) for name in numbers.sample(names, numbers.randint(0, 3))) for _ in range(2)]
            straight = fewest(shelf_of(jar, self.REQUEST, 5), wishes[1])
            self.assertLessEqual(straight, grant(jar, self.REQUEST, wishes[0], 5) + grant(jar, self.REQUEST, wishes[1], 5))

    def test_there_and_back(self):
        jar = Jar((), crumbs=(Crumb("a", "1", "a.com", path="/x"),), tick=4)
        self.assertEqual([grant(jar, self.REQUEST, wish, 5) for wish in ((("c", "1"), ("a", "1")), (("a", "1"),))], [3, 1])


if __name__ == "__main__":
    unittest.main()
