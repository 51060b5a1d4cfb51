"""[34]: when a crumb that is sent stops, and when the answer to a request changes."""

import itertools
import random
import unittest

from crumbjar.crumbs import Crumb, remade
from crumbjar.errors import BadCrumb, BadRequest, BadRules, BadTick
from crumbjar.jars import Jar
from crumbjar.requests import Request
from crumbjar.rules import broken_rules
from crumbjar.stops import answers, next_change, stop_of
from crumbjar.words import LAST_TICK
from kinds import OTHERS

RULES = ("com",)
TARGET = ("https", "a.com", "/x")
NEWS = ("https", "news.net")
PAGE = Request((TARGET,))
LINKED = Request((TARGET,), starter=NEWS)
POSTED = Request((TARGET,), starter=NEWS, is_reading=False)
FRAMED = Request((TARGET,), frames=(NEWS,))
SCRIPT = Request((TARGET,), by="script")
# Those that are sent "default" only because it is young.
YOUNG = (POSTED, Request((NEWS + ("/",), TARGET), is_reading=False), Request((TARGET,), starter=("http", "a.com"), is_reading=False))


def crumb(name="n", **settings):
    return Crumb(name, "v", "a.com", **{"born": (100, 1), "seen": 100, **settings})


class StopTest(unittest.TestCase):
    def check(self, one, request, tick, expected):
        self.assertEqual(stop_of(RULES, one, request, tick), expected)

    def test_never(self):
        for same, request in itertools.product(("strict", "lax", "default"), (PAGE, SCRIPT)):
            self.check(crumb(same=same), request, 100, None)
        self.check(crumb(same="lax"), LINKED, LAST_TICK, None)
        self.check(crumb(same="none", is_secure=True), FRAMED, 100, None)
        self.check(crumb(), LINKED, 100, None)

    def test_by_the_end(self):
        for tick in (100, 105, 149):
            self.check(crumb(ends=150), PAGE, tick, (150, "ended"))
            self.check(crumb(ends=150, same="none", is_secure=True), FRAMED, tick, (150, "ended"))
        self.check(crumb(ends=LAST_TICK, seen=LAST_TICK - 1), PAGE, LAST_TICK - 1, (LAST_TICK, "ended"))

    def test_by_the_birth(self):
        for request in YOUNG:
            for tick in (100, 219):
                self.check(crumb(), request, tick, (220, "birth"))
            self.check(crumb(ends=221), request, 219, (220, "birth"))
            self.check(crumb(seen=180), request, 219, (220, "birth"))

    def test_both(self):
        for request in YOUNG:
            self.check(crumb(ends=219), request, 218, (219, "ended"))
            self.check(crumb(ends=220), request, 219, (220, "ended"))
            self.check(crumb(ends=221), request, 219, (220, "birth"))
        for request in (PAGE, LINKED, SCRIPT):
            self.check(crumb(ends=221), request, 219, (221, "ended"))

    def test_only_default_stops_by_its_birth(self):
        for same in ("none", "default"):
            one = crumb(same=same, is_secure=True)
            self.check(one, POSTED, 100, None if same == "none" else (220, "birth"))

    def test_the_last_ticks(self):
        young = crumb(born=(LAST_TICK - 120, 1), seen=LAST_TICK - 120)
        self.check(young, POSTED, LAST_TICK - 1, (LAST_TICK, "birth"))
        younger = crumb(born=(LAST_TICK - 119, 1), seen=LAST_TICK - 119)
        self.check(younger, POSTED, LAST_TICK, None)
        self.check(remade(younger, ends=LAST_TICK), POSTED, LAST_TICK - 1, (LAST_TICK, "ended"))
        self.check(remade(young, ends=LAST_TICK), POSTED, LAST_TICK - 1, (LAST_TICK, "ended"))

    def test_what_is_not_sent(self):
        for one, request, tick in ((crumb(ends=150), PAGE, 150), (crumb(same="strict"), LINKED, 100), (crumb(), POSTED, 220),
                                   (crumb(path="/y"), PAGE, 100), (crumb(), FRAMED, 100), (crumb(is_hidden=True), SCRIPT, 100)):
            with self.assertRaises(BadCrumb) as caught:
                stop_of(RULES, one, request, tick)
            self.assertEqual(caught.exception.field, "sent")

    def test_errors_of_sending_come_first(self):
        good = {"rules": RULES, "crumb": crumb(), "request": PAGE, "tick": 100}
        for field, value, kind in (("rules", None, BadRules), ("crumb", None, BadCrumb), ("request", None, BadRequest),
                                   ("tick", -1, BadTick)):
            with self.assertRaises(kind) as caught:
                stop_of(**{**good, field: value})
            self.assertIs(type(caught.exception), kind)
        with self.assertRaises(BadCrumb) as caught:
            stop_of((), Crumb("n", "v", "com", is_exact=False), None, None)
        self.assertEqual(caught.exception.field, "crumb")

    def test_sent_up_to_the_stop_and_never_again(self):
        for one in (crumb(), crumb(ends=150), crumb(ends=220), crumb(ends=300), crumb(same="lax", ends=130)):
            for request in (PAGE, LINKED, POSTED, SCRIPT):
                ticks = [tick for tick in range(100, 340) if broken_rules(RULES, one, request, tick) == ()]
                if ticks:
                    self.assertEqual(ticks, list(range(100, ticks[-1] + 1)))
                    stop = stop_of(RULES, one, request, 100)
                    self.assertEqual(stop and stop[0], None if ticks[-1] == 339 else ticks[-1] + 1)


class ChangeTest(unittest.TestCase):
    def jar(self):
        crumbs = (crumb("a", ends=150), crumb("b"), crumb("c", ends=220), crumb("d", ends=400, path="/x"), crumb("e", ends=150, path="/x"),
                  crumb("f", ends=160, same="strict"), crumb("g", born=(110, 1), seen=110), crumb("h", same="none", is_secure=True))
        return Jar(RULES, crumbs=crumbs, tick=120)

    def test_next_change(self):
        jar = self.jar()
        self.assertEqual(next_change(jar, PAGE), 150)
        self.assertEqual(next_change(jar=jar, request=FRAMED), None)
        jar.close(150)
        self.assertEqual(next_change(jar, PAGE), 160)
        jar.look(PAGE, 170)
        self.assertEqual(next_change(jar, PAGE), 220)
        self.assertIsNone(next_change(jar, Request((("https", "b.com", "/"),))))
        self.assertIsNone(next_change(Jar(RULES), PAGE))

    def test_next_change_by_births(self):
        jar = Jar(RULES, crumbs=(crumb("b"), crumb("g", born=(110, 1), seen=110)), tick=120)
        self.assertEqual((next_change(jar, POSTED), next_change(jar, PAGE)), (220, None))
        jar = Jar(RULES, crumbs=(crumb("b"), crumb("g", born=(110, 1), seen=110)), tick=220)
        self.assertEqual(next_change(jar, POSTED), 230)

    def test_answers(self):
        jar = self.jar()

        def key(name, path="/"):
            return ((), "a.com", True, path, name)

        def pairs(names):
            return tuple((name, "v") for name in names)

        def told(request, goal):
            return answers(jar, request, goal)

        self.assertEqual(told(POSTED, 500), [
            (120, pairs("deabchg"), ()),
            (150, pairs("dbchg"), ((key("e", "/x"), "ended"), (key("a"), "ended"))),
            (220, pairs("hg"), ((key("d", "/x"), "birth"), (key("b"), "birth"), (key("c"), "ended"))),
            (230, pairs("h"), ((key("g"), "birth"),)),
        ])
        self.assertEqual(told(PAGE, 219), [
            (120, pairs("deabcfhg"), ()),
            (150, pairs("dbcfhg"), ((key("e", "/x"), "ended"), (key("a"), "ended"))),
            (160, pairs("dbchg"), ((key("f"), "ended"),)),
        ])
        self.assertEqual([piece[0] for piece in told(PAGE, LAST_TICK)], [120, 150, 160, 220, 400])
        self.assertEqual([piece[0] for piece in told(PAGE, 220)], [120, 150, 160, 220])
        self.assertEqual(told(FRAMED, LAST_TICK), [(120, pairs("h"), ())])
        self.assertEqual(answers(jar=jar, request=PAGE, goal=120), told(PAGE, 149))
        self.assertEqual(len(told(PAGE, 120)), 1)
        self.assertEqual(told(Request((("http", "b.com", "/"),)), 999), [(120, (), ())])

    def test_what_has_ended_at_the_tick_of_the_jar(self):
        jar = Jar(RULES, crumbs=(crumb("a", ends=150), crumb("b", ends=160)), tick=150)
        self.assertEqual(answers(jar, PAGE, 200), [(150, (("b", "v"),), ()), (160, (), ((((), "a.com", True, "/", "b"), "ended"),))])
        self.assertEqual(next_change(jar, PAGE), 160)

    def test_nothing_changes(self):
        jar = self.jar()
        kept = (jar.crumbs, jar.tick, jar.deeds, jar.log)
        one, two = answers(jar, PAGE, 500), answers(jar, PAGE, 500)
        next_change(jar, PAGE)
        self.assertIsNot(one, two)
        self.assertIs(type(one), list)
        one.append(5)
        self.assertEqual(two, answers(jar, PAGE, 500))
        self.assertEqual((jar.crumbs, jar.tick, jar.deeds, jar.log), kept)

    def test_goals(self):
        jar = self.jar()
        for goal in (None, True, -1, 119, 0, LAST_TICK + 1, "150", 150.0):
            with self.assertRaises(BadTick) as caught:
                answers(jar, PAGE, goal)
            self.assertIs(caught.exception.given, goal)
        for value in OTHERS:
            for call in (lambda: answers(jar, value, 150), lambda: next_change(jar, value)):
                with self.assertRaises(BadRequest) as caught:
                    call()
                self.assertEqual(caught.exception.field, "request")

    def test_the_last_ticks(self):
        late = crumb("a", born=(LAST_TICK - 120, 1), seen=LAST_TICK - 100)
        later = crumb("b", born=(LAST_TICK - 119, 1), seen=LAST_TICK - 100)
        jar = Jar(RULES, crumbs=(late, later), tick=LAST_TICK - 1)
        self.assertEqual(answers(jar, POSTED, LAST_TICK), [
            (LAST_TICK - 1, (("a", "v"), ("b", "v")), ()),
            (LAST_TICK, (("b", "v"),), ((late.key, "birth"),)),
        ])
        self.assertEqual(next_change(jar, POSTED), LAST_TICK)
        jar.close(LAST_TICK)
        self.assertIsNone(next_change(jar, POSTED))


class FactTest(unittest.TestCase):
    def test_the_answer_changes_exactly_at_the_stops(self):
        numbers = random.Random(34)
        for _ in range(60):
            crumbs = tuple(crumb(f"n{at}", born=(numbers.randint(80, 120), at), seen=numbers.randint(120, 125),
                                 ends=numbers.choice((None, numbers.randint(126, 260))), path=numbers.choice(("/", "/x")),
                                 is_secure=True, same=numbers.choice(("default", "default", "lax", "strict", "none")))
                           for at in range(8))
            jar = Jar(RULES, crumbs=crumbs, tick=125)
            for request in (PAGE, LINKED, POSTED, FRAMED):
                told = {tick: jar.chosen(request, tick) for tick in range(125, 270)}
                changes = [tick for tick in range(126, 270) if told[tick] != told[tick - 1]]
                pieces = answers(jar, request, 269)
                self.assertEqual([piece[0] for piece in pieces], [125] + changes)
                self.assertEqual(next_change(jar, request), changes[0] if changes else None)
                for tick, answer, stops in pieces:
                    self.assertEqual(answer, tuple((one.name, one.value) for one in told[tick]))
                    if tick > 125:
                        gone = [one.key for one in told[tick - 1] if one not in told[tick]]
                        self.assertEqual([stop[0] for stop in stops], gone)
                        self.assertEqual([one for one in told[tick - 1] if one.key not in gone], list(told[tick]))
                        for key, word in stops:
                            self.assertEqual(word == "ended", jar.crumb_at(key).ends == tick)


if __name__ == "__main__":
    unittest.main()
