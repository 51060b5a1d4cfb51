"""The facts of [26], [32], [33] and [35], and jars against a plain telling of [30] to [33]."""

import random
import unittest

from crumbjar.crumbs import Crumb, has_ended, is_crumb, remade
from crumbjar.jars import Jar
from crumbjar.requests import Request
from crumbjar.rules import broken_rules, crumb_of, line_paper
from crumbjar.suffixes import family_of
from some_jars import HOSTS, ORIGINS, PATHS, RULES, TEXTS, done, some_deed


class PlainJar:
    """[30] to [33] word by word, with a dict from keys to crumbs."""

    def __init__(self, most_of_family, most):
        self.limits = (most_of_family, most)
        self.crumbs, self.number, self.log = {}, 0, []

    def sweep(self, tick):
        self.number += 1
        ended = [crumb for crumb in self.crumbs.values() if has_ended(crumb, tick)]
        for crumb in sorted(ended, key=lambda crumb: (crumb.ends, crumb.key)):
            self.log.append((self.number, crumb.ends, "ended", crumb.key))
            del self.crumbs[crumb.key]

    def drop(self, keys, tick, word):
        for key in keys:
            del self.crumbs[key]
            self.log.append((self.number, tick, word, key))
        return tuple(keys)

    def take(self, request, text, tick):
        self.sweep(tick)
        word, key = line_paper(RULES, request, text, tick, tuple(self.crumbs.values()))
        if word == "gone":
            return "removed" if self.drop([key] if key in self.crumbs else [], tick, "removed") else "nothing"
        if word != "set":
            return word
        new = crumb_of(RULES, request, text, tick, self.number)
        if key in self.crumbs:
            self.crumbs[key] = remade(new, born=self.crumbs[key].born)
            self.log.append((self.number, tick, "changed", key))
            return "changed"
        self.crumbs[key] = new
        self.log.append((self.number, tick, "added", key))
        group = [crumb for crumb in self.crumbs.values() if crumb.space == new.space
                 and family_of(RULES, crumb.host) == family_of(RULES, new.host)]
        for many, most in ((group, self.limits[0]), (list(self.crumbs.values()), self.limits[1])):
            if len(many) > most:
                least = sorted(many, key=lambda crumb: (crumb.priority, crumb.is_secure, crumb.seen, crumb.key))[0]
                self.drop([least.key], tick, "evicted")
                break
        return "set"

    def look(self, request, tick):
        self.sweep(tick)
        sent = [crumb for crumb in self.crumbs.values() if not broken_rules(RULES, crumb, request, tick)]
        for crumb in sent:
            self.crumbs[crumb.key] = remade(crumb, seen=tick)
        return tuple((crumb.name, crumb.value) for crumb in sorted(sent, key=lambda crumb: (-len(crumb.path), crumb.born, crumb.key)))

    def close(self, tick):
        self.sweep(tick)
        return self.drop(sorted(key for key in self.crumbs if self.crumbs[key].ends is None), tick, "closed")

    def clear(self, family, tick):
        self.sweep(tick)
        return self.drop(sorted(key for key in self.crumbs if family_of(RULES, key[1]) == family), tick, "cleared")


class PlainTest(unittest.TestCase):
    def test_as_told(self):
        words = set()
        for seed in range(80):
            numbers = random.Random(seed)
            limits = (numbers.choice((1, 2, 4, 20)), numbers.choice((1, 3, 6, 60)))
            jar, plain, tick = Jar(RULES, most_of_family=limits[0], most=limits[1]), PlainJar(*limits), 0
            for _ in range(100):
                tick += numbers.choice((0, 0, 1, 3, 7))
                deed = some_deed(numbers, tick)
                request_of_write = deed[:1] == ("write",)
                answer = done(jar, deed)
                if deed[0] in ("receive", "write"):
                    self.assertEqual(answer, plain.take(*deed[1:]))
                    self.assertEqual(request_of_write, deed[1].by == "script")
                    words.add(answer)
                else:
                    self.assertEqual(answer, done(plain, deed))
                self.assertEqual(jar.crumbs, tuple(plain.crumbs[key] for key in sorted(plain.crumbs)))
                self.assertEqual((jar.log, jar.deeds, jar.tick), (tuple(plain.log), plain.number, tick))
                self.assertTrue(all(is_crumb(RULES, crumb) for crumb in jar.crumbs))
        self.assertEqual(words, set("set changed removed nothing line domain public family secure hidden cross prefix covers "
                                    "kept".split()))

    def test_the_log_tells_the_keys(self):
        for seed in range(30):
            numbers = random.Random(seed)
            jar, tick, keys = Jar(RULES, most_of_family=3, most=5), 0, []
            for _ in range(80):
                tick += numbers.choice((0, 1, 5))
                done(jar, some_deed(numbers, tick))
            for _, _, word, key in jar.log:
                if word == "added":
                    self.assertNotIn(key, keys)
                    keys.append(key)
                else:
                    self.assertIn(key, keys)
                    if word != "changed":
                        keys.remove(key)
            self.assertEqual(sorted(keys), [crumb.key for crumb in jar.crumbs])
            self.assertEqual([row[0] for row in jar.log], sorted(row[0] for row in jar.log))


class SendingFactsTest(unittest.TestCase):
    def test_crumbs_stay_in_the_family_of_the_host_that_set_them(self):
        for seed in range(20):
            numbers = random.Random(seed)
            jar, setters, tick = Jar(RULES), {}, 0
            for _ in range(80):
                tick += numbers.choice((0, 1, 5))
                deed = some_deed(numbers, tick)
                rows = len(jar.log)
                unsafe = deed[0] in ("receive", "write") and deed[1].target[0] == "http" and deed[1].target[1] != "localhost"
                before = {crumb.key: crumb for crumb in jar.crumbs}
                sent = jar.chosen(deed[1], tick) if deed[0] == "look" else ()
                done(jar, deed)
                for _, _, word, key in jar.log[rows:]:
                    if word in ("added", "changed"):
                        setters[key] = family_of(RULES, deed[1].target[1])
                    if unsafe and word in ("added", "changed"):
                        self.assertTrue(jar.crumb_at(key) is None or not jar.crumb_at(key).is_secure)
                    if unsafe and word in ("changed", "removed"):
                        self.assertFalse(before[key].is_secure)
                for crumb in sent:
                    self.assertEqual(setters[crumb.key], family_of(RULES, deed[1].target[1]))
                    self.assertTrue(not crumb.is_secure or deed[1].target[0] == "https" or deed[1].target[1] == "localhost")


class LikeJarsTest(unittest.TestCase):
    def test_jars_that_differ_only_in_seen(self):
        for seed in range(30):
            numbers = random.Random(seed)
            crumbs = [Crumb(name, "v", host, born=(at, at), seen=at) for at, (name, host) in enumerate(
                (name, host) for name in "nmk" for host in ("a.com", "b.com", "t.net"))]
            one = Jar(RULES, most_of_family=4, most=11, crumbs=tuple(crumbs), tick=20)
            two = Jar(RULES, most_of_family=4, most=11, tick=20,
                      crumbs=tuple(remade(crumb, seen=numbers.randint(crumb.seen, 20)) for crumb in crumbs))
            tick = 20
            for _ in range(40):
                tick += numbers.choice((0, 1, 5))
                deed = some_deed(numbers, tick)
                answers = done(one, deed), done(two, deed)
                if "evicted" in [row[2] for row in one.log + two.log]:
                    break
                self.assertEqual(*answers)
                self.assertEqual([remade(crumb, seen=tick) for crumb in one.crumbs], [remade(crumb, seen=tick) for crumb in two.crumbs])

    def test_greater_jars(self):
        texts = [text for text in TEXTS if "SameSite" not in text and "Domain" not in text and "_" not in text and text]
        evicted = 0
        for seed in range(40):
            numbers = random.Random(seed)
            many = numbers.randint(1, 6)
            more = many + numbers.randint(1, 4)
            small, great, tick = Jar(RULES, most_of_family=60, most=many), Jar(RULES, most_of_family=60, most=more), 0
            for _ in range(120):
                tick += numbers.choice((0, 1, 5))
                target = ("https", numbers.choice(HOSTS), numbers.choice(PATHS))
                if numbers.random() < 0.7:
                    text = numbers.choice(texts).replace("{}", str(numbers.randrange(5)))
                    deed = ("receive", Request((target,)), text, tick)
                else:
                    deed = numbers.choice((("look", Request((target,), starter=numbers.choice((None, ORIGINS[1]))), tick),) * 6
                                          + (("close", tick), ("clear", "a.com", tick)))
                answers = done(small, deed), done(great, deed)
                if deed[0] == "receive":
                    self.assertIn(answers[0], ("set", "changed", "removed", "nothing"))
                less = {crumb.key for crumb in small.crumbs}
                self.assertLessEqual(less, {crumb.key for crumb in great.crumbs})
                self.assertLessEqual(len(great.crumbs) - len(less), more - many)
                self.assertTrue(len(great.crumbs) < more or len(less) == many)
            evicted += "evicted" in [row[2] for row in great.log]
        self.assertGreater(evicted, 10)


if __name__ == "__main__":
    unittest.main()
