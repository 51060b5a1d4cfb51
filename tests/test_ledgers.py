"""[40] to [43]: ledgers, merging them and their news, ledgers of jars and jars of ledgers."""

import itertools
import random
import unittest

from crumbjar.crumbs import Crumb, remade
from crumbjar.errors import BadDevice, BadJar, BadLedger, BadLimit, BadRules, BadTick
from crumbjar.futures import replayed, same_future
from crumbjar.jars import Jar
from crumbjar.ledgers import Ledger, jar_of, ledger_of
from crumbjar.requests import Request
from crumbjar.stamps import is_write
from crumbjar.words import LAST_TICK
from kinds import OTHERS
from some_jars import RULES, done, some_deed, some_deeds, some_ledger

PAGE = Request((("https", "a.com", "/"),))
KEY, LATER = ((), "a.com", True, "/", "n"), ((), "a.com", True, "/", "o")
FIRST = ((), "a.com", True, "/", "m")
CONTENT = ("v", False, False, "default", 1, 900)
GONE = ((50, "b", 5), (50, "b", 5), None)
HAD = ((50, "b", 6), (40, "a", 4), CONTENT)


def key_of(name, host="a.com", path="/"):
    return ((), host, True, path, name)


class LedgerTest(unittest.TestCase):
    def test_parts(self):
        ledger = Ledger(writes={LATER: HAD, FIRST: GONE, KEY: HAD}, seens={KEY: 7, FIRST: 0})
        self.assertEqual(list(ledger.writes.items()), [(FIRST, GONE), (KEY, HAD), (LATER, HAD)])
        self.assertEqual(list(ledger.seens.items()), [(FIRST, 0), (KEY, 7)])
        for empty in (Ledger(), Ledger(writes={}, seens={}), Ledger(writes=None, seens=None)):
            self.assertEqual((empty.writes, empty.seens), ({}, {}))
        self.assertEqual(Ledger(seens={KEY: LAST_TICK}).seens, {KEY: LAST_TICK})

    def test_by_name_only(self):
        with self.assertRaises(TypeError):
            Ledger({})

    def test_nothing_passed_is_kept_and_what_is_told_is_new(self):
        writes, seens = {KEY: HAD}, {KEY: 7}
        ledger = Ledger(writes=writes, seens=seens)
        writes[LATER], seens[LATER] = HAD, 8
        ledger.writes[LATER], ledger.seens[LATER] = HAD, 8
        self.assertEqual((ledger.writes, ledger.seens), ({KEY: HAD}, {KEY: 7}))
        self.assertIsNot(ledger.writes, ledger.writes)
        self.assertIsNot(ledger.seens, ledger.seens)

    def test_equal(self):
        ledger = Ledger(writes={KEY: HAD, LATER: GONE}, seens={KEY: 7})
        self.assertIs(ledger == Ledger(writes={LATER: GONE, KEY: HAD}, seens={KEY: 7}), True)
        for other in (Ledger(), Ledger(writes={KEY: HAD}, seens={KEY: 7}), Ledger(writes={KEY: HAD, LATER: GONE}),
                      Ledger(writes={KEY: HAD, LATER: GONE}, seens={KEY: 8}),
                      Ledger(writes={KEY: HAD, LATER: HAD}, seens={KEY: 7}), *OTHERS):
            self.assertIs(ledger == other, False)
        self.assertIs(Ledger() == {}, False)

    def check_bad(self, given, **parts):
        with self.assertRaises(BadLedger) as caught:
            Ledger(**parts)
        self.assertEqual(repr(caught.exception.given), repr(given), parts)

    def test_no_dicts(self):
        for value in OTHERS:
            if value is not None and not isinstance(value, dict):
                self.check_bad(value, writes=value)
                self.check_bad(value, seens=value)
                self.check_bad(value, writes=value, seens=5)
                self.check_bad(value, writes={KEY: 5}, seens=value)
                self.check_bad(value, writes=value, seens={KEY: None})

    def test_no_keys_writes_or_ticks(self):
        for key in ("n", 5, None, True, (), ((), "a.com", True, "/"), ((), "a.com", 1, "/", "n"), ((), "A.com", True, "/", "n")):
            self.check_bad(key, writes={key: GONE})
            self.check_bad(key, seens={key: 5})
        for value in (*OTHERS, HAD[:2], list(GONE), (HAD[1], HAD[0], CONTENT)):
            self.check_bad(KEY, writes={KEY: value})
            self.check_bad(KEY, writes={FIRST: GONE, KEY: value}, seens={FIRST: 5})
            if not isinstance(value, int) or isinstance(value, bool) or not 0 <= value <= LAST_TICK:
                self.check_bad(KEY, seens={KEY: value})
                self.check_bad(KEY, writes={FIRST: GONE}, seens={KEY: value})
        self.check_bad(LATER, writes={LATER: None}, seens={KEY: None})
        self.check_bad(KEY, seens={KEY: LAST_TICK + 1})
        self.check_bad(KEY, seens={KEY: -1})
        # A seen may stand without a write, and behind the end of one.
        self.assertEqual(Ledger(writes={FIRST: HAD}, seens={KEY: 5, FIRST: LAST_TICK}).seens, {KEY: 5, FIRST: LAST_TICK})


class MergingTest(unittest.TestCase):
    def test_greatest_writes_and_seens(self):
        low, high = ((50, "b", 5), (40, "a", 4), CONTENT), ((50, "b", 6), (0, "a", 0), CONTENT)
        one = Ledger(writes={KEY: low, FIRST: GONE}, seens={KEY: 9, FIRST: 3})
        other = Ledger(writes={KEY: high, LATER: HAD}, seens={KEY: 8, LATER: 4})
        both = Ledger(writes={FIRST: GONE, KEY: high, LATER: HAD}, seens={FIRST: 3, KEY: 9, LATER: 4})
        self.assertEqual(one.merged(other), both)
        self.assertEqual(other.merged(one), both)
        self.assertEqual(list(one.merged(other).writes), [FIRST, KEY, LATER])
        self.assertEqual((one.writes[KEY], other.writes[KEY]), (low, high))

    def test_any_number(self):
        ledgers = [Ledger(seens={KEY: 1}), Ledger(seens={FIRST: 2}), Ledger(seens={LATER: 3, KEY: 0})]
        self.assertEqual(ledgers[0].merged(), ledgers[0])
        self.assertIsNot(ledgers[0].merged(), ledgers[0])
        for order in itertools.permutations(ledgers):
            self.assertEqual(order[0].merged(*order[1:]).seens, {FIRST: 2, KEY: 1, LATER: 3})

    def test_within(self):
        small, great = Ledger(writes={KEY: GONE}, seens={KEY: 5}), Ledger(writes={KEY: HAD, LATER: GONE}, seens={KEY: 6})
        self.assertEqual((small.is_within(great), great.is_within(small), small.is_within(small)), (True, False, True))
        self.assertEqual((Ledger().is_within(small), small.is_within(Ledger())), (True, False))
        less_seen = Ledger(writes={KEY: HAD}, seens={KEY: 4})
        self.assertEqual((small.is_within(less_seen), less_seen.is_within(small)), (False, False))
        only_seen = Ledger(seens={LATER: 1})
        self.assertEqual((only_seen.is_within(small), only_seen.is_within(great)), (False, False))

    def test_news(self):
        one = Ledger(writes={KEY: HAD, FIRST: GONE, LATER: GONE}, seens={KEY: 5, FIRST: 6, LATER: 7})
        other = Ledger(writes={KEY: GONE, LATER: GONE}, seens={KEY: 5, LATER: 6})
        self.assertEqual(one.news_for(other), Ledger(writes={KEY: HAD, FIRST: GONE}, seens={FIRST: 6, LATER: 7}))
        self.assertEqual(other.news_for(one), Ledger())
        self.assertEqual(one.news_for(one), Ledger())
        self.assertEqual(one.news_for(Ledger()), one)
        seen = Ledger(writes={KEY: HAD}, seens={KEY: 6})
        self.assertEqual(seen.news_for(one), Ledger(seens={KEY: 6}))

    def test_no_ledgers(self):
        ledger = Ledger(seens={KEY: 5})
        for value in (*OTHERS, Jar(())):
            for call in (lambda: ledger.merged(value), lambda: ledger.merged(ledger, value), lambda: ledger.merged(value, ledger),
                         lambda: ledger.is_within(value), lambda: ledger.news_for(value)):
                with self.assertRaises(BadLedger) as caught:
                    call()
                self.assertIsNone(caught.exception.given)
        self.assertEqual(ledger.is_within(other=ledger), True)
        self.assertEqual(ledger.news_for(other=ledger), Ledger())

    def test_facts(self):
        for seed in range(150):
            numbers = random.Random(seed)
            one, two, three = [some_ledger(numbers) for _ in range(3)]
            both = one.merged(two)
            self.assertEqual(both, two.merged(one))
            self.assertEqual(both.merged(three), one.merged(two.merged(three)))
            self.assertEqual(one.merged(two, three), three.merged(both, one, two))
            self.assertEqual((one.merged(one), both.merged(one)), (one, both))
            self.assertEqual((one.is_within(both), both.is_within(one)), (True, both == one))
            news = one.news_for(two)
            self.assertEqual(two.merged(news), both)
            # Whatever does the same has all of the news, and what has less of it does not.
            for part in itertools.product((True, False), repeat=len(one.writes) + len(one.seens)):
                kept = iter(part)
                some = Ledger(writes={key: write for key, write in one.writes.items() if next(kept)},
                              seens={key: seen for key, seen in one.seens.items() if next(kept)})
                self.assertEqual(two.merged(some) == both, news.is_within(some))


class LedgerOfJarTest(unittest.TestCase):
    def test_added_changed_and_looked_at(self):
        jar = Jar(())
        jar.receive(PAGE, "n=1; Max-Age=90; HttpOnly", 5)
        self.assertEqual(ledger_of(jar, "desk"), Ledger(
            writes={key_of("n"): ((5, "desk", 1), (5, "desk", 1), ("1", False, True, "default", 1, 95))}, seens={key_of("n"): 5}))
        jar.receive(PAGE, "n=2; Max-Age=90; Priority=High; SameSite=Lax; Secure", 7)
        changed = ((7, "desk", 2), (5, "desk", 1), ("2", True, False, "lax", 2, 97))
        self.assertEqual(ledger_of(jar, "desk"), Ledger(writes={key_of("n"): changed}, seens={key_of("n"): 7}))
        jar.look(PAGE, 9)
        self.assertEqual(ledger_of(jar, "desk"), Ledger(writes={key_of("n"): changed}, seens={key_of("n"): 9}))
        self.assertEqual(ledger_of(device="phone", jar=jar).writes[key_of("n")][:2], ((7, "phone", 2), (5, "phone", 1)))

    def test_without_an_end(self):
        jar = Jar(())
        jar.receive(PAGE, "n=1", 5)
        jar.look(PAGE, 8)
        gone = ((5, "a", 1), (5, "a", 1), None)
        self.assertEqual(ledger_of(jar, "a"), Ledger(writes={key_of("n"): gone}))
        jar.receive(PAGE, "n=1; Max-Age=9", 9)
        jar.receive(PAGE, "n=1", 10)
        self.assertEqual(ledger_of(jar, "a"), Ledger(writes={key_of("n"): ((10, "a", 4), (10, "a", 4), None)}))

    def test_removed_and_cleared(self):
        jar = Jar(())
        jar.receive(PAGE, "n=1; Max-Age=90", 5)
        jar.receive(PAGE, "m=1; Max-Age=90", 5)
        jar.receive(PAGE, "n=1; Max-Age=0", 6)
        removed = ((6, "a", 3), (6, "a", 3), None)
        self.assertEqual(ledger_of(jar, "a").writes[key_of("n")], removed)
        jar.clear("a.com", 8)
        self.assertEqual(ledger_of(jar, "a"),
                         Ledger(writes={key_of("n"): removed, key_of("m"): ((8, "a", 4), (8, "a", 4), None)}))

    def test_ended_and_closed_keep_the_stamp_ahead(self):
        jar = Jar(())
        jar.receive(PAGE, "n=1; Max-Age=2", 5)
        jar.receive(PAGE, "m=1", 5)
        jar.close(9)
        self.assertEqual([row[2:] for row in jar.log[2:]], [("ended", key_of("n")), ("closed", key_of("m"))])
        self.assertEqual(ledger_of(jar, "a"), Ledger(writes={key_of("n"): ((5, "a", 1), (5, "a", 1), None),
                                                             key_of("m"): ((5, "a", 2), (5, "a", 2), None)}))

    def test_evicted_last(self):
        jar = Jar((), most=1)
        jar.receive(PAGE, "n=1; Max-Age=90", 5)
        jar.receive(PAGE, "m=1; Max-Age=90", 6)
        self.assertEqual(list(ledger_of(jar, "a").writes), [key_of("m")])
        # It is the last row of all words that counts: added again, and removed.
        jar.receive(PAGE, "m=1; Max-Age=0", 7)
        jar.receive(PAGE, "n=1; Max-Age=90", 8)
        jar.receive(PAGE, "n=1; Max-Age=0", 9)
        self.assertEqual(ledger_of(jar, "a"), Ledger(writes={key_of("m"): ((7, "a", 3), (7, "a", 3), None),
                                                             key_of("n"): ((9, "a", 5), (9, "a", 5), None)}))

    def test_crumbs_without_a_row(self):
        crumbs = (Crumb("n", "1", "a.com", born=(3, 7), seen=50, ends=90), Crumb("m", "1", "a.com", born=(4, 8), seen=51),
                  Crumb("o", "1", "a.com", born=(3, 2), seen=50, ends=60))
        jar = Jar((), crumbs=crumbs, tick=55)
        written = ((50, "a", 7), (3, "a", 7), ("1", False, False, "default", 1, 90))
        ended = ((50, "a", 2), (3, "a", 2), ("1", False, False, "default", 1, 60))
        gone = ((51, "a", 8), (51, "a", 8), None)
        self.assertEqual(ledger_of(jar, "a"), Ledger(writes={key_of("n"): written, key_of("m"): gone, key_of("o"): ended},
                                                     seens={key_of("n"): 50, key_of("o"): 50}))
        # A look raises the stamp; what goes without a row that stamps it is not written at all.
        jar.look(PAGE, 58)
        jar.close(70)
        self.assertEqual(ledger_of(jar, "a"), Ledger(writes={key_of("n"): ((58, "a", 7), *written[1:])}, seens={key_of("n"): 58}))
        # An ended crumb that was not swept is still there.
        late = Jar((), crumbs=crumbs, tick=100)
        self.assertEqual(ledger_of(late, "a").writes[key_of("n")], written)

    def test_a_crumb_that_was_given_and_changed(self):
        jar = Jar((), crumbs=(Crumb("n", "1", "a.com", born=(3, 7), seen=50, ends=90),), tick=55)
        jar.receive(PAGE, "n=2; Max-Age=9", 56)
        self.assertEqual(ledger_of(jar, "a").writes, {key_of("n"): ((56, "a", 8), (3, "a", 7), ("2", False, False, "default", 1, 65))})

    def test_partitions(self):
        jar = Jar(("com",))
        jar.receive(PAGE, "n=1; Max-Age=9; Secure; Partitioned", 5)
        framed = Request((("https", "a.com", "/"),), frames=(("https", "b.com"),))
        jar.receive(framed, "n=1; Max-Age=9; Secure; Partitioned; SameSite=None", 5)
        self.assertEqual([key[0] for key in ledger_of(jar, "a").writes],
                         [(("https", "a.com"), False), (("https", "b.com"), True)])

    def test_errors(self):
        for value in OTHERS:
            with self.assertRaises(BadJar) as caught:
                ledger_of(value, value)
            self.assertIs(caught.exception.given, value)
            if value not in ("x", "com"):
                with self.assertRaises(BadDevice) as caught:
                    ledger_of(Jar(()), value)
                self.assertIs(caught.exception.given, value)
        for device in ("", "abcdefghi", "A", "a1"):
            with self.assertRaises(BadDevice):
                ledger_of(Jar(()), device)

    def test_by_chance_all_are_writes(self):
        words = set()
        for seed in range(60):
            numbers = random.Random(seed)
            jar = Jar(RULES, most_of_family=3, most=4)
            for deed in some_deeds(numbers, 5, 60):
                done(jar, deed)
            before = (jar.crumbs, jar.log, jar.deeds, jar.tick)
            ledger = ledger_of(jar, "a")
            self.assertEqual((jar.crumbs, jar.log, jar.deeds, jar.tick), before)
            for key, write in ledger.writes.items():
                self.assertTrue(is_write(key, write))
                rows = [row for row in jar.log if row[3] == key]
                stamping = [row for row in rows if row[2] in ("added", "changed", "removed", "cleared")]
                self.assertEqual(write[0], (stamping[-1][1], "a", stamping[-1][0]))
                crumb = jar.crumb_at(key)
                self.assertEqual(write[2] is not None, crumb is not None and crumb.ends is not None)
                self.assertEqual(ledger.seens.get(key), crumb.seen if write[2] else None)
                words.add(rows[-1][2])
            for key in {row[3] for row in jar.log} - set(ledger.writes):
                self.assertEqual([row[2] for row in jar.log if row[3] == key][-1], "evicted")
        self.assertEqual(words, {"added", "changed", "removed", "cleared", "ended", "closed"})


def ledger_with(*told):
    """A ledger with writes of these (name, stamp, birth, ends) and seens of these (name, tick)."""
    writes = {key_of(name): (stamp, birth, CONTENT[:5] + (ends,)) for name, stamp, birth, ends in [x for x in told if len(x) == 4]}
    return Ledger(writes=writes, seens={key_of(name): tick for name, tick in [x for x in told if len(x) == 2]})


class JarOfLedgerTest(unittest.TestCase):
    def test_crumbs(self):
        ledger = ledger_with(("n", (50, "a", 9), (40, "b", 3), 90), ("m", (50, "b", 9), (40, "b", 2), 90),
                             ("o", (51, "a", 9), (40, "a", 7), 90), ("n", 55), ("m", 49))
        jar = jar_of(ledger, (), 60)
        made = Crumb("n", "v", "a.com", born=(40, 3), seen=55, ends=90)
        self.assertEqual(jar, Jar((), crumbs=(made, remade(made, name="m", born=(40, 2), seen=50),
                                              remade(made, name="o", born=(40, 1), seen=51)), tick=60))
        self.assertEqual((jar.log, jar.tick, jar.deeds, jar.most, jar.most_of_family), ((), 60, 3, 60, 20))

    def test_all_of_a_content(self):
        key = ((("https", "b.com"), True), "a.com", False, "/x", "n")
        ledger = Ledger(writes={key: ((50, "a", 9), (40, "b", 3), ("1", True, True, "none", 2, 90))})
        self.assertEqual(jar_of(ledger, (), 50).crumbs, (Crumb(
            "n", "1", "a.com", is_exact=False, path="/x", is_secure=True, is_hidden=True, same="none", priority=2,
            space=(("https", "b.com"), True), born=(40, 1), seen=50, ends=90),))

    def test_equal_births_go_by_keys(self):
        birth = (40, "b", 3)
        jar = jar_of(ledger_with(("o", (50, "a", 9), birth, 90), ("m", (50, "a", 9), birth, 90), ("n", (50, "a", 9), birth, 90)), (), 60)
        self.assertEqual([(crumb.name, crumb.born) for crumb in jar.crumbs], [("m", (40, 1)), ("n", (40, 2)), ("o", (40, 3))])

    def test_gone_ended_or_no_crumbs_under_the_rules(self):
        ledger = Ledger(writes={
            key_of("n"): GONE, key_of("m"): ((50, "a", 1), (30, "a", 1), CONTENT[:5] + (59,)),
            key_of("o"): ((50, "a", 1), (31, "a", 1), CONTENT[:5] + (60,)),
            key_of("p"): ((50, "a", 1), (32, "a", 1), CONTENT[:5] + (61,)),
            ((), "com", False, "/", "n"): ((50, "a", 1), (20, "a", 1), CONTENT),
            ((("https", "www.a.com"), False), "www.a.com", True, "/", "n"):
                ((50, "a", 1), (21, "a", 1), ("v", True, False, "lax", 1, 90))})
        self.assertEqual([(crumb.name, crumb.born) for crumb in jar_of(ledger, ("com",), 60).crumbs], [("p", (32, 1))])
        self.assertEqual([(crumb.name, crumb.born) for crumb in jar_of(ledger, ("com", "a.com"), 59).crumbs],
                         [("o", (31, 2)), ("p", (32, 3)), ("n", (21, 1))])
        self.assertEqual(jar_of(Ledger(), ("com",), 7), Jar(("com",), tick=7))
        self.assertEqual(jar_of(Ledger(seens={KEY: 7}), (), 7).crumbs, ())
        self.assertEqual(jar_of(Ledger(), (), 0), Jar(()))

    def test_a_seen_behind_the_end(self):
        ledger = ledger_with(("n", (50, "a", 9), (40, "b", 3), 60), ("n", 70), ("m", (50, "a", 9), (40, "b", 3), 80), ("m", 79))
        self.assertEqual([(crumb.name, crumb.seen) for crumb in jar_of(ledger, (), 79).crumbs], [("m", 79)])

    def test_limits(self):
        told = [(name, (50 + at, "a", 1), (40, "a", at), 90) for at, name in enumerate("gfedcba")]
        jar = jar_of(ledger_with(*told, ("g", 60)), (), 60, most_of_family=3, most=5)
        self.assertEqual([(crumb.name, crumb.born) for crumb in jar.crumbs], [("a", (40, 7)), ("b", (40, 6)), ("g", (40, 1))])
        hosts = {((), f"h{at}", True, "/", "n"): ((50 + at, "a", 1), (40, "a", at), CONTENT) for at in range(5)}
        everywhere = Ledger(writes={**ledger_with(*told).writes, **hosts})
        jar = jar_of(everywhere, (), 60, most_of_family=2, most=4)
        self.assertEqual([(crumb.host, crumb.name) for crumb in jar.crumbs], [("a.com", "a"), ("a.com", "b"), ("h3", "n"), ("h4", "n")])
        self.assertEqual((jar.most_of_family, jar.most), (2, 4))
        self.assertEqual(len(jar_of(everywhere, (), 60, most_of_family=7, most=12).crumbs), 12)

    def test_partitions_are_groups_of_their_own(self):
        space = (("https", "a.com"), False)
        content = ("v", True, False, "lax", 1, 90)
        writes = {(part, "a.com", True, "/", name): ((50, "a", 1), (40, "a", 1), content) for part in ((), space) for name in "nm"}
        jar = jar_of(Ledger(writes=writes), (), 60, most_of_family=1)
        self.assertEqual([crumb.key[0::4] for crumb in jar.crumbs], [((), "n"), (space, "n")])

    def test_rank_decides_who_goes(self):
        def one(value, is_secure, priority, tick):
            return ((tick, "a", 1), (40, "a", 1), (value, is_secure, False, "lax", priority, 90))
        writes = {key_of("a"): one("v", False, 2, 50), key_of("b"): one("v", True, 1, 50), key_of("c"): one("v", False, 1, 59),
                  key_of("d"): one("v", True, 0, 60), key_of("e"): one("v", False, 1, 50)}
        for many, left in ((5, "abcde"), (4, "abce"), (3, "abc"), (2, "ab"), (1, "a")):
            self.assertEqual("".join(crumb.name for crumb in jar_of(Ledger(writes=writes), (), 60, most=many).crumbs), left)
            self.assertEqual("".join(crumb.name for crumb in jar_of(Ledger(writes=writes), (), 60, most_of_family=many).crumbs), left)

    def test_errors_in_their_order(self):
        ledger = Ledger(writes={KEY: GONE}, seens={FIRST: 40})
        for value in OTHERS:
            with self.assertRaises(BadLedger) as caught:
                jar_of(value, value, value, most_of_family=value, most=value)
            self.assertIsNone(caught.exception.given)
            if value not in ((), ("http",), ("http", "a.com")):
                with self.assertRaises(BadRules):
                    jar_of(ledger, value, value, most_of_family=value, most=value)
            with self.assertRaises(BadTick) as caught:
                jar_of(ledger, (), value, most_of_family=0, most=0)
            self.assertIs(caught.exception.given, value)
        for tick in (49, -1, LAST_TICK + 1):
            with self.assertRaises(BadTick):
                jar_of(ledger, (), tick)
        with self.assertRaises(BadTick):
            jar_of(Ledger(seens={FIRST: 40}), (), 39)
        self.assertEqual((jar_of(ledger, (), 50).tick, jar_of(Ledger(seens={FIRST: 40}), (), 40).tick), (50, 40))
        for field, value in (("most_of_family", 0), ("most_of_family", 1001), ("most_of_family", True), ("most", 0), ("most", None)):
            with self.assertRaises(BadLimit) as caught:
                jar_of(ledger, (), 60, **{field: value})
            self.assertEqual(caught.exception.field, field)
        with self.assertRaises(BadLimit) as caught:
            jar_of(ledger, (), 60, most=0, most_of_family="x")
        self.assertEqual(caught.exception.field, "most_of_family")
        with self.assertRaises(TypeError):
            jar_of(ledger, (), 60, 5)

    def test_the_jar_of_its_ledger_has_the_same_future(self):
        many = 0
        for seed in range(250):
            numbers = random.Random(seed)
            jar, tick = Jar(RULES, most_of_family=numbers.choice((2, 20)), most=numbers.choice((3, 60))), 5
            for _ in range(40):
                tick += numbers.choice((0, 0, 1, 2))
                deed = some_deed(numbers, tick)
                if deed[0] in ("receive", "write"):
                    deed = (deed[0], deed[1], deed[2] + numbers.choice(("; Max-Age=9", "; Max-Age=200", "; Max-Age=99999999")), tick)
                done(jar, deed)
            self.assertTrue(all(crumb.ends is not None for crumb in jar.crumbs))
            back = jar_of(ledger_of(jar, "a"), RULES, jar.tick, most_of_family=jar.most_of_family, most=jar.most)
            for later in (1, 2, 119, 120, 300):
                self.assertTrue(same_future(jar, back, jar.tick + later))
            deeds = some_deeds(numbers, jar.tick + 1, 25)
            self.assertEqual(replayed(jar, deeds), replayed(back, deeds))
            many += len(jar.crumbs) > 1
        self.assertGreater(many, 100)


if __name__ == "__main__":
    unittest.main()
