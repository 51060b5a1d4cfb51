"""[30], [31] and [33]: jars, their deeds, what is chosen, and the log."""

import unittest

from crumbjar.crumbs import Crumb, remade
from crumbjar.errors import BadCrumbs, BadHost, BadLimit, BadLine, BadRequest, BadRules, BadTick
from crumbjar.jars import Jar, header
from crumbjar.requests import Request
from crumbjar.words import LAST_TICK
from kinds import OTHERS, not_texts, not_tuples

RULES = ("com", "net", "far.a.com")
PAGE = Request((("https", "www.a.com", "/x/y"),))
PLAIN = Request((("http", "www.a.com", "/x/y"),))
SCRIPT = Request((("https", "www.a.com", "/x/y"),), by="script")
OTHER = Request((("https", "b.net", "/"),))
FRAMED = Request((("https", "t.net", "/"),), frames=(("https", "a.com"),))
FRAMED_BY_B = Request((("https", "t.net", "/"),), frames=(("https", "b.net"),))
NEAR_A = (("https", "a.com"), False)
FAR_A = (("https", "a.com"), True)
FAR_B = (("https", "b.net"), True)
FIELDS = ("rules", "most_of_family", "most", "crumbs", "tick", "deeds", "log")


def state(jar):
    """All that can be seen of a jar."""
    return tuple(getattr(jar, field) for field in FIELDS)


def names(crumbs):
    return "".join(crumb.name for crumb in crumbs)


def key(name, host="www.a.com", path="/x", is_exact=True, space=()):
    return (space, host, is_exact, path, name)


class JarCase(unittest.TestCase):
    def check_error(self, call, kind, field, expected):
        with self.assertRaises(kind) as caught:
            call()
        self.assertIs(type(caught.exception), kind)
        self.assertEqual(getattr(caught.exception, field), expected)
        self.assertIs(type(getattr(caught.exception, field)), type(expected))


class NewJarTest(JarCase):
    def test_usual_settings(self):
        self.assertEqual(state(Jar(RULES)), (RULES, 20, 60, (), 0, 0, ()))
        self.assertEqual(state(Jar(rules=())), ((), 20, 60, (), 0, 0, ()))
        with self.assertRaises(TypeError):
            Jar(RULES, 20)

    def test_crumbs_by_keys(self):
        crumbs = tuple(Crumb(name, "v", host, born=(3, number), seen=4)
                       for number, (name, host) in enumerate((("b", "a.com"), ("a", "b.com"), ("a", "a.com"))))
        jar = Jar(RULES, most_of_family=2, most=3, crumbs=crumbs, tick=4)
        self.assertEqual(state(jar), (RULES, 2, 3, (crumbs[2], crumbs[0], crumbs[1]), 4, 2, ()))

    def test_count_of_the_deeds(self):
        crumbs = (Crumb("a", "v", "a.com", born=(0, 7)), Crumb("b", "v", "a.com", born=(0, 3)), Crumb("c", "v", "a.com", born=(0, 7)))
        jar = Jar(RULES, crumbs=crumbs)
        self.assertEqual(jar.deeds, 7)
        jar.receive(PAGE, "n=v", 5)
        self.assertEqual((jar.crumb_at(key("n")).born, jar.log[0][0]), ((5, 8), 8))

    def test_crumbs_that_have_ended_stay_until_a_deed(self):
        jar = Jar(RULES, crumbs=(Crumb("a", "v", "a.com", ends=3),), tick=9)
        self.assertEqual((names(jar.crumbs), jar.log, jar.tick), ("a", (), 9))
        self.assertEqual(jar.chosen(Request((("http", "a.com", "/"),)), 9), ())
        jar.close(9)
        self.assertEqual((jar.crumbs, jar.log), ((), ((1, 3, "ended", ((), "a.com", True, "/", "a")),)))

    def test_rules(self):
        for rules, index in ((None, None), (["com"], None), (("com", "com"), 1), (("A",), 0), (("com", 5), 1)):
            self.check_error(lambda: Jar(rules), BadRules, "index", index)
            self.check_error(lambda: Jar(rules, most_of_family=0, most=0, crumbs=None, tick=None), BadRules, "index", index)

    def test_limits(self):
        for value in (1, 2, 999, 1000):
            self.assertEqual(state(Jar((), most_of_family=value, most=1001 - value))[1:3], (value, 1001 - value))
        for value in OTHERS + (0, 1001, -1, 10 ** 20, 20.0, "20"):
            if type(value) is int and value in (1, 7):
                continue
            self.check_error(lambda: Jar((), most_of_family=value), BadLimit, "field", "most_of_family")
            self.check_error(lambda: Jar((), most=value), BadLimit, "field", "most")
            self.check_error(lambda: Jar((), most_of_family=value, most=value), BadLimit, "field", "most_of_family")
            self.check_error(lambda: Jar((), most=value, crumbs=None, tick=None), BadLimit, "field", "most")

    def check_crumbs(self, crumbs, index, **settings):
        self.check_error(lambda: Jar(RULES, crumbs=crumbs, **settings), BadCrumbs, "index", index)
        self.check_error(lambda: Jar(RULES, crumbs=crumbs, tick=-1, **settings), BadCrumbs, "index", index)

    def test_no_crumbs(self):
        for value in not_tuples():
            self.check_crumbs(value, None)
        good = Crumb("a", "v", "a.com")
        self.check_crumbs([good], None)
        for value in OTHERS + (Crumb("n", "v", "com", is_exact=False), good.key):
            self.check_crumbs((value,), 0)
            self.check_crumbs((good, value), 1)

    def test_equal_keys(self):
        one, other = Crumb("a", "v", "a.com"), Crumb("b", "v", "a.com")
        self.check_crumbs((one, other, remade(one, value="w")), 2)
        self.check_crumbs((one, one, None), 1)
        self.assertEqual(len(Jar(RULES, crumbs=(one, other, remade(one, path="/x"))).crumbs), 3)

    def test_too_many(self):
        def crumbs(*hosts):
            return tuple(Crumb(f"n{at}", "v", host) for at, host in enumerate(hosts))

        full = crumbs("a.com", "x.a.com", "b.com", "c.com")
        self.assertEqual(len(Jar(RULES, most_of_family=2, most=4, crumbs=full).crumbs), 4)
        self.check_crumbs(full, 3, most_of_family=2, most=3)
        self.check_crumbs(full, 1, most_of_family=1, most=4)
        self.check_crumbs(crumbs("a.com", "b.com", "y.x.a.com", "b.com", "far.a.com", "a.com"), 5, most_of_family=2, most=9)
        self.check_crumbs((Crumb("a", "v", "a.com"), Crumb("b", "v", "a.com"), None), 1, most=1)
        # Partitions are groups of their own.
        spaces = tuple(Crumb("a", "v", "a.com", is_secure=True, same="none", space=space) for space in (None, NEAR_A, FAR_A, FAR_B))
        self.assertEqual(len(Jar(RULES, most_of_family=1, most=4, crumbs=spaces).crumbs), 4)
        self.check_crumbs(spaces + (Crumb("b", "v", "a.com", is_secure=True, space=NEAR_A),), 4, most_of_family=1, most=9)

    def test_limit_of_1000(self):
        crumbs = tuple(Crumb(f"n{at}", "v", "a.com") for at in range(1001))
        self.assertEqual(len(Jar((), most_of_family=1000, most=1000, crumbs=crumbs[:1000]).crumbs), 1000)
        self.check_crumbs(crumbs, 1000, most_of_family=1000, most=1000)

    def test_ticks(self):
        self.assertEqual(Jar((), tick=LAST_TICK).tick, LAST_TICK)
        for value in (None, True, False, -1, LAST_TICK + 1, "5", 5.0, (5,)):
            self.check_error(lambda: Jar((), tick=value), BadTick, "given", value)
        crumbs = (Crumb("a", "v", "a.com", born=(3, 1), seen=9), Crumb("b", "v", "a.com", born=(5, 1), seen=5))
        self.assertEqual(Jar((), crumbs=crumbs, tick=9).tick, 9)
        self.check_error(lambda: Jar((), crumbs=crumbs, tick=8), BadTick, "given", 8)
        self.check_error(lambda: Jar((), crumbs=crumbs[1:], tick=4), BadTick, "given", 4)
        self.check_error(lambda: Jar((), crumbs=crumbs), BadTick, "given", 0)


class ReceiveTest(JarCase):
    def test_words(self):
        jar = Jar(RULES)
        for request, text, tick, word in (
            (PAGE, "n=1", 5, "set"), (PAGE, "n=2", 5, "changed"), (PAGE, "n=2", 6, "changed"), (PAGE, "n=2; Path=/", 6, "set"),
            (PAGE, "n=; Max-Age=0", 7, "removed"), (PAGE, "n=; Max-Age=0", 7, "nothing"),
            (PAGE, "=", 7, "line"), (PAGE, "n=1; Domain=b.net", 7, "domain"), (PAGE, "n=1; Domain=com", 8, "public"),
            (PLAIN, "n=1; Secure", 8, "secure"), (FRAMED, "n=1", 8, "cross"), (PAGE, "n=1; SameSite=None", 8, "none"),
            (PAGE, "__Host-n=1", 8, "prefix"), (PAGE, "n=1; Partitioned", 8, "partition"),
            (Request((("https", "x.far.a.com", "/"),)), "n=1; Domain=a.com", 8, "family"),
            (PAGE, "s=1; Secure", 9, "set"), (PLAIN, "s=1", 9, "covers"), (PLAIN, "s=1; Max-Age=0", 9, "covers"),
        ):
            self.assertEqual(jar.receive(request, text, tick), word)
            self.assertEqual(jar.tick, tick)
        self.assertEqual(jar.deeds, 18)
        self.assertEqual([row[:3] for row in jar.log], [(1, 5, "added"), (2, 5, "changed"), (3, 6, "changed"), (4, 6, "added"),
                                                        (5, 7, "removed"), (16, 9, "added")])

    def test_writing(self):
        jar = Jar(RULES)
        for text, word in (("n=1", "set"), ("n=2", "changed"), ("n=2; HttpOnly", "hidden"), ("n=; Max-Age=0", "removed"),
                           ("n=; Max-Age=0", "nothing")):
            self.assertEqual(jar.write(SCRIPT, text, 5), word)
        jar.receive(PAGE, "h=1; HttpOnly", 5)
        for text in ("h=2", "h=2; Max-Age=0"):
            self.assertEqual(jar.write(request=SCRIPT, text=text, tick=5), "kept")
        self.assertEqual(jar.crumb_at(key("h")).value, "1")
        self.assertEqual((jar.deeds, jar.log[-1]), (8, (6, 5, "added", key("h"))))

    def test_what_is_set(self):
        jar = Jar(RULES)
        jar.close(3)
        jar.receive(request=PAGE, text="n=v; Max-Age=60; Priority=High", tick=5)
        self.assertEqual(jar.crumbs, (Crumb("n", "v", "www.a.com", path="/x", priority=2, born=(5, 2), seen=5, ends=65),))

    def test_a_changed_crumb_keeps_its_birth(self):
        jar = Jar(RULES)
        jar.receive(PAGE, "n=v; Max-Age=60", 5)
        jar.receive(PAGE, "n=w; Secure", 9)
        self.assertEqual(jar.crumbs, (Crumb("n", "w", "www.a.com", path="/x", is_secure=True, born=(5, 1), seen=9),))
        jar.receive(PAGE, "n=; Max-Age=0", 10)
        jar.receive(PAGE, "n=w", 10)
        self.assertEqual(jar.crumbs[0].born, (10, 4))

    def test_a_crumb_that_ended_is_not_changed(self):
        jar = Jar(RULES)
        jar.receive(PAGE, "n=v; Max-Age=4", 5)
        self.assertEqual(jar.receive(PAGE, "n=w", 9), "set")
        self.assertEqual(jar.crumbs[0].born, (9, 2))
        self.assertEqual(jar.log[1:], ((2, 9, "ended", key("n")), (2, 9, "added", key("n"))))
        jar.receive(PAGE, "n=v; Max-Age=4", 10)
        self.assertEqual(jar.receive(PAGE, "n=w; Max-Age=0", 14), "nothing")
        jar.receive(PAGE, "n=v; Secure; Max-Age=4", 20)
        self.assertEqual(jar.receive(PLAIN, "n=v", 23), "covers")
        self.assertEqual(jar.receive(PLAIN, "n=v", 24), "set")
        jar.receive(PAGE, "n=v; HttpOnly; Max-Age=4", 30)
        self.assertEqual(jar.write(SCRIPT, "n=v", 33), "kept")
        self.assertEqual(jar.write(SCRIPT, "n=v", 34), "set")

    def test_a_refused_line_counts_and_sweeps(self):
        jar = Jar(RULES, crumbs=(Crumb("a", "v", "a.com", ends=3), Crumb("b", "v", "a.com", ends=9)))
        self.assertEqual(jar.receive(PAGE, "", 5), "line")
        self.assertEqual((jar.deeds, jar.tick, names(jar.crumbs)), (1, 5, "b"))
        self.assertEqual(jar.log, ((1, 3, "ended", ((), "a.com", True, "/", "a")),))
        self.assertEqual(jar.receive(PAGE, "m=; Max-Age=0", 9), "nothing")
        self.assertEqual((jar.deeds, jar.tick, names(jar.crumbs)), (2, 9, ""))

    def test_exact_and_wide_are_two_keys(self):
        jar = Jar(RULES)
        self.assertEqual(jar.receive(PAGE, "n=1", 5), "set")
        self.assertEqual(jar.receive(PAGE, "n=2; Domain=www.a.com", 5), "set")
        self.assertEqual(jar.receive(PAGE, "n=; Domain=www.a.com; Max-Age=0", 5), "removed")
        self.assertEqual([crumb.value for crumb in jar.crumbs], ["1"])

    def test_partitions_are_apart(self):
        jar = Jar(RULES)
        text = "n=1; Secure; SameSite=None; Partitioned"
        for request in (FRAMED, FRAMED_BY_B, Request((("https", "t.net", "/"),))):
            self.assertEqual(jar.receive(request, text, 5), "set")
            self.assertEqual(jar.receive(request, text, 5), "changed")
        self.assertEqual([crumb.space for crumb in jar.crumbs], [FAR_A, FAR_B, (("https", "t.net"), False)])

    def test_errors(self):
        jar = Jar(RULES, tick=7)
        jar.receive(PAGE, "n=v", 8)
        kept = state(jar)
        for deed, right, wrong in ((jar.receive, PAGE, SCRIPT), (jar.write, SCRIPT, PAGE)):
            for value in OTHERS + (PAGE.target, (PAGE,)):
                self.check_error(lambda: deed(value, None, None), BadRequest, "field", "request")
            self.check_error(lambda: deed(wrong, "n=v", 8), BadRequest, "field", "by")
            self.check_error(lambda: deed(wrong, None, None), BadRequest, "field", "by")
            for value in not_texts():
                self.check_error(lambda: deed(right, value, None), BadLine, "field", "text")
                self.check_error(lambda: deed(right, value, 8), BadLine, "field", "text")
            for value in (None, True, -1, 7, 0, LAST_TICK + 1, "8", 8.0):
                self.check_error(lambda: deed(right, "n=v", value), BadTick, "given", value)
                self.check_error(lambda: deed(right, "", value), BadTick, "given", value)
        self.assertEqual(state(jar), kept)


class LimitTest(JarCase):
    def test_one_of_the_group_goes(self):
        jar = Jar(RULES, most_of_family=2, most=3)
        for name, tick in (("a", 5), ("b", 6)):
            jar.receive(PAGE, name + "=v", tick)
        jar.receive(OTHER, "o=v", 6)
        self.assertEqual(jar.receive(PAGE, "c=v", 7), "set")
        self.assertEqual(names(jar.crumbs), "obc")
        self.assertEqual(jar.log[-2:], ((4, 7, "added", key("c")), (4, 7, "evicted", key("a"))))
        jar.look(Request((("https", "www.a.com", "/x"),)), 8)
        self.assertEqual(jar.receive(PAGE, "d=v; Priority=Low", 9), "set")
        self.assertEqual(names(jar.crumbs), "obc")
        self.assertEqual(jar.log[-2:], ((6, 9, "added", key("d")), (6, 9, "evicted", key("d"))))

    def test_one_of_all_goes(self):
        jar = Jar(RULES, most=2)
        jar.receive(PAGE, "a=v", 5)
        jar.receive(OTHER, "b=v", 6)
        jar.receive(Request((("http", "c.com", "/"),)), "c=v", 7)
        self.assertEqual(names(jar.crumbs), "bc")
        self.assertEqual(jar.log[-1], (3, 7, "evicted", key("a")))

    def test_a_look_saves(self):
        jar = Jar(RULES, most=2)
        jar.receive(PAGE, "a=v", 5)
        jar.receive(OTHER, "b=v", 6)
        jar.look(PAGE, 7)
        jar.receive(OTHER, "c=v", 8)
        self.assertEqual(names(jar.crumbs), "ca")

    def test_ties(self):
        jar = Jar(RULES, most_of_family=2)
        for text in ("b=v", "a=v", "c=v"):
            jar.receive(PAGE, text, 5)
        self.assertEqual(names(jar.crumbs), "bc")
        jar = Jar(RULES, most_of_family=3)
        for text, left in (("a=v; Secure; Priority=Low", "a"), ("b=v", "ab"), ("c=v; Priority=Low", "abc"), ("d=v", "abd"),
                           ("e=v; Secure", "bde"), ("f=v; Secure", "def")):
            jar.receive(PAGE, text, 5)
            self.assertEqual(names(jar.crumbs), left)

    def test_a_change_evicts_nobody(self):
        jar = Jar(RULES, most_of_family=1, most=1)
        self.assertEqual(jar.receive(PAGE, "a=v", 5), "set")
        self.assertEqual(jar.receive(PAGE, "a=w", 6), "changed")
        self.assertEqual(jar.receive(PAGE, "b=w", 7), "set")
        self.assertEqual(jar.receive(OTHER, "c=w", 8), "set")
        self.assertEqual([row[2] for row in jar.log], ["added", "changed", "added", "evicted", "added", "evicted"])
        self.assertEqual(names(jar.crumbs), "c")

    def test_the_sweep_makes_room(self):
        jar = Jar(RULES, most_of_family=1, most=1)
        jar.receive(PAGE, "a=v; Max-Age=4", 5)
        jar.receive(PAGE, "b=v", 9)
        self.assertEqual([row[2] for row in jar.log], ["added", "ended", "added"])

    def test_1000(self):
        jar = Jar((), most_of_family=1000, most=1000)
        for at in range(1001):
            self.assertEqual(jar.receive(PAGE, f"n{at:04d}=v", at), "set")
            self.assertEqual(len(jar.crumbs), min(at + 1, 1000))
        self.assertEqual(jar.log[-1], (1001, 1000, "evicted", key("n0000")))


class LookTest(JarCase):
    def test_the_answer(self):
        jar = Jar(RULES)
        self.assertEqual(jar.look(PAGE, 4), ())
        jar.receive(PAGE, "b=1; Path=/", 5)
        jar.receive(PAGE, "a=2", 5)
        jar.receive(PAGE, "=3; Path=/", 5)
        jar.receive(PAGE, "c=4; Path=/x/y", 5)
        jar.receive(PAGE, "d=5; Path=/x/z", 5)
        jar.receive(OTHER, "e=6", 5)
        self.assertEqual(jar.look(request=PAGE, tick=6), (("c", "4"), ("a", "2"), ("b", "1"), ("", "3")))
        self.assertEqual(jar.look(OTHER, 6), (("e", "6"),))
        self.assertEqual((jar.deeds, jar.tick, len(jar.log)), (9, 6, 6))

    def test_the_chosen_ones_are_seen(self):
        jar = Jar(RULES)
        for text in ("a=1", "b=2; Path=/z", "c=3; Domain=a.com; Max-Age=9"):
            jar.receive(PAGE, text, 5)
        before = jar.crumbs
        jar.look(PAGE, 8)
        self.assertEqual(jar.crumbs, tuple(crumb if crumb.name == "b" else remade(crumb, seen=8) for crumb in before))
        self.assertEqual([row[2] for row in jar.log], ["added"] * 3)

    def test_order(self):
        crumbs = (
            Crumb("a", "1", "a.com", born=(5, 2), seen=9), Crumb("b", "2", "a.com", born=(5, 1), seen=9),
            Crumb("c", "3", "a.com", born=(4, 9), seen=9), Crumb("d", "4", "a.com", path="/x", born=(7, 1), seen=9),
            Crumb("e", "5", "a.com", born=(5, 1), seen=9), Crumb("b", "6", "a.com", is_exact=False, born=(5, 1), seen=9),
            Crumb("g", "7", "a.com", path="/x/", born=(8, 1), seen=9),
        )
        request = Request((("https", "a.com", "/x/y"),))
        for order in (crumbs, crumbs[::-1], crumbs[3:] + crumbs[:3]):
            jar = Jar(RULES, crumbs=order, tick=9)
            self.assertEqual([crumb.value for crumb in jar.chosen(request, 9)], list("7436251"))
            self.assertEqual([value for _, value in jar.look(request, 9)], list("7436251"))

    def test_a_look_sweeps(self):
        jar = Jar(RULES)
        jar.receive(PAGE, "a=1; Max-Age=4", 5)
        jar.receive(OTHER, "b=1; Max-Age=4", 5)
        self.assertEqual(jar.look(PAGE, 8), (("a", "1"),))
        self.assertEqual(jar.look(PAGE, 9), ())
        self.assertEqual(jar.log[2:], ((4, 9, "ended", ((), "b.net", True, "/", "b")), (4, 9, "ended", key("a"))))

    def test_choosing_is_no_deed(self):
        jar = Jar(RULES)
        jar.receive(PAGE, "a=1; Max-Age=4", 5)
        kept = state(jar)
        self.assertEqual(jar.chosen(PAGE, 8), jar.crumbs)
        self.assertEqual(jar.chosen(request=PAGE, tick=9), ())
        self.assertIs(type(jar.chosen(PAGE, 8)), tuple)
        self.assertEqual(state(jar), kept)

    def test_only_what_breaks_no_rule(self):
        jar = Jar(RULES)
        jar.receive(PAGE, "s=1; Secure", 5)
        jar.receive(PAGE, "h=1; HttpOnly", 5)
        jar.receive(PAGE, "t=1; SameSite=Strict", 5)
        jar.receive(PAGE, "d=1", 5)
        jar.receive(PAGE, "p=1; Secure; Partitioned", 5)
        posted = Request((PAGE.target,), starter=("https", "b.net"), is_reading=False)
        for request, tick, expected in ((PAGE, 6, "shtdp"), (PLAIN, 6, "htd"), (SCRIPT, 6, "stdp"), (posted, 6, "shdp"),
                                        (posted, 124, "shdp"), (posted, 125, ""),
                                        (Request((PAGE.target,), starter=("https", "b.net")), 125, "shdp")):
            self.assertEqual(names(jar.chosen(request, tick)), expected)

    def test_errors(self):
        jar = Jar(RULES, tick=7)
        jar.receive(PAGE, "n=v", 8)
        kept = state(jar)
        for deed in (jar.look, jar.chosen):
            for value in OTHERS + (PAGE.target,):
                self.check_error(lambda: deed(value, None), BadRequest, "field", "request")
                self.check_error(lambda: deed(value, 9), BadRequest, "field", "request")
            for value in (None, True, -1, 7, LAST_TICK + 1, "8", 8.0):
                self.check_error(lambda: deed(PAGE, value), BadTick, "given", value)
        self.assertEqual(state(jar), kept)


class CloseTest(JarCase):
    def filled(self):
        jar = Jar(RULES)
        for request in (FRAMED, FRAMED_BY_B):
            jar.receive(request, "p=1; Secure; SameSite=None; Partitioned", 5)
        jar.receive(Request((("https", "t.net", "/"),)), "t=1; Max-Age=9", 5)
        jar.receive(PAGE, "b=1", 5)
        jar.receive(PAGE, "a=1; Domain=a.com", 5)
        jar.receive(PAGE, "c=1; Max-Age=3", 5)
        jar.receive(PAGE, "d=1; Max-Age=90", 5)
        return jar

    def test_closing(self):
        jar = self.filled()
        keys = (((), "a.com", False, "/x", "a"), key("b"), (FAR_A, "t.net", True, "/", "p"), (FAR_B, "t.net", True, "/", "p"))
        self.assertEqual(jar.close(7), keys)
        self.assertEqual(jar.log[7:], tuple((8, 7, "closed", one) for one in keys))
        self.assertEqual(names(jar.crumbs), "tcd")
        self.assertEqual(jar.close(tick=8), ())
        self.assertEqual((names(jar.crumbs), jar.log[11:]), ("td", ((9, 8, "ended", key("c")),)))
        self.assertEqual((jar.deeds, jar.tick), (9, 8))

    def test_clearing(self):
        jar = self.filled()
        keys = (((), "t.net", True, "/", "t"), (FAR_A, "t.net", True, "/", "p"), (FAR_B, "t.net", True, "/", "p"))
        self.assertEqual(jar.clear("t.net", 9), keys)
        self.assertEqual(jar.log[7:], ((8, 8, "ended", key("c")),) + tuple((8, 9, "cleared", one) for one in keys))
        self.assertEqual(names(jar.crumbs), "abd")
        for family in ("t.net", "www.a.com", "com", "far.a.com", "1.2.3.4"):
            self.assertEqual(jar.clear(family=family, tick=10), ())
        self.assertEqual((names(jar.crumbs), jar.deeds), ("abd", 13))
        self.assertEqual(jar.clear("a.com", 10), (((), "a.com", False, "/x", "a"), key("b"), key("d")))
        self.assertEqual(jar.crumbs, ())

    def test_families(self):
        crumbs = (Crumb("a", "v", "a.com"), Crumb("b", "v", "x.a.com"), Crumb("c", "v", "x.far.a.com"), Crumb("d", "v", "far.a.com"),
                  Crumb("e", "v", "com"), Crumb("f", "v", "1.2.3.4"), Crumb("g", "v", "ba.com"))
        for family, gone in (("a.com", "ab"), ("x.far.a.com", "c"), ("far.a.com", "d"), ("com", "e"), ("1.2.3.4", "f"),
                             ("x.a.com", "")):
            jar = Jar(RULES, crumbs=crumbs)
            self.assertEqual("".join(one[-1] for one in jar.clear(family, 0)), gone)
            self.assertEqual(set(names(jar.crumbs)), set("abcdefg") - set(gone))

    def test_what_ended_did_not_go_by_it(self):
        jar = self.filled()
        self.assertEqual(jar.clear("a.com", 95), (((), "a.com", False, "/x", "a"), key("b")))
        self.assertEqual([(row[1], row[2], row[3][-1]) for row in jar.log[7:]],
                         [(8, "ended", "c"), (14, "ended", "t"), (95, "ended", "d"), (95, "cleared", "a"), (95, "cleared", "b")])

    def test_errors(self):
        jar = self.filled()
        kept = state(jar)
        for value in (None, True, -1, 4, LAST_TICK + 1, "8", 8.0):
            self.check_error(lambda: jar.close(value), BadTick, "given", value)
            self.check_error(lambda: jar.clear("a.com", value), BadTick, "given", value)
        for value, place in ((None, 0), (5, 0), ("", 1), ("A.com", 1), ("a..b", 3), ("a.com.", 7), ("1.2.3", 6), (("a",), 0)):
            self.check_error(lambda: jar.clear(value, None), BadHost, "place", place)
            self.check_error(lambda: jar.clear(value, 9), BadHost, "place", place)
        self.assertEqual(state(jar), kept)


class KeysAndCopiesTest(JarCase):
    def test_crumb_at(self):
        jar = Jar(RULES)
        jar.receive(PAGE, "n=1; Max-Age=4", 5)
        self.assertEqual(jar.crumb_at(key("n")), jar.crumbs[0])
        self.assertEqual(jar.crumb_at(key=key("n")).value, "1")
        for other in (key("m"), key("n", path="/"), key("n", is_exact=False), key("n", host="a.com"), key("n", space=NEAR_A), ()):
            self.assertIsNone(jar.crumb_at(other))
        jar.close(9)
        self.assertIsNone(jar.crumb_at(key("n")))

    def test_copies_go_on_alone(self):
        jar = Jar(RULES, most_of_family=3, most=4, tick=3)
        jar.receive(PAGE, "n=1", 5)
        jar.receive(PAGE, "n=; Max-Age=0", 5)
        jar.receive(PAGE, "m=1", 5)
        jar.look(PAGE, 7)
        copy = jar.copied()
        kept = state(jar)
        self.assertEqual(state(copy), kept)
        self.assertEqual((copy.deeds, copy == jar, copy is jar), (4, True, False))
        copy.receive(PAGE, "o=1", 9)
        self.assertEqual(state(jar), kept)
        self.assertEqual((copy.log[-1][0], copy.tick, copy.crumb_at(key("o")).born), (5, 9, (9, 5)))
        other = state(copy)
        jar.clear("a.com", 12)
        self.assertEqual(state(copy), other)
        self.assertEqual(jar.receive(PAGE, "n=1", 12), "set")

    def test_copies_of_jars_with_ended_crumbs(self):
        jar = Jar(RULES, crumbs=(Crumb("a", "v", "a.com", ends=3),), tick=9)
        self.assertEqual(state(jar.copied()), state(jar))

    def test_equal(self):
        crumb = Crumb("n", "v", "a.com", born=(0, 1))
        jar = Jar(RULES, crumbs=(crumb,), tick=3)
        self.assertIs(jar == Jar(RULES, crumbs=(crumb,), tick=3), True)
        for other in (Jar(("com", "far.a.com", "net"), crumbs=(crumb,), tick=3), Jar(RULES, crumbs=(crumb,), tick=4),
                      Jar(RULES, most=61, crumbs=(crumb,), tick=3), Jar(RULES, most_of_family=21, crumbs=(crumb,), tick=3),
                      Jar(RULES, crumbs=(remade(crumb, value="w"),), tick=3), Jar(RULES, tick=3)):
            self.assertIs(jar == other, False)
        for value in OTHERS:
            self.assertIs(jar == value, False)
        # The count matters, the log does not.
        one, two = Jar(RULES), Jar(RULES)
        one.close(0)
        self.assertIs(one == two, False)
        two.receive(PAGE, "", 0)
        self.assertIs(one == two, True)
        one, two = Jar(RULES, crumbs=(remade(crumb, ends=3),)), Jar(RULES)
        one.close(5)
        two.look(PAGE, 5)
        one.close(5)
        self.assertIs(one == two, False)
        two.close(5)
        self.assertIs(one == two, False)
        two.close(5)
        self.assertEqual((one.deeds, one == two, one.log == two.log), (3, True, False))

    def test_returned_tuples_are_tuples(self):
        jar = Jar(RULES)
        self.assertEqual([type(value) for value in (jar.crumbs, jar.log, jar.look(PAGE, 1), jar.close(1), jar.clear("a.com", 1))],
                         [tuple] * 5)


class HeaderTest(unittest.TestCase):
    def test_headers(self):
        for pairs, text in (((), ""), ((("a", "1"),), "a=1"), ((("a", "1"), ("b", "2")), "a=1; b=2"), ((("", "v"),), "v"),
                            ((("", "v=w"),), "v=w"), ((("a", ""),), "a="), ((("a", "b=c"), ("", "d")), "a=b=c; d")):
            self.assertEqual(header(pairs), text)
        self.assertEqual(header(pairs=(("a", "1"),)), "a=1")


if __name__ == "__main__":
    unittest.main()
