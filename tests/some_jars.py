"""Jars, ledgers and deeds by chance, for the facts."""

import random

from crumbjar.crumbs import Crumb, is_crumb, remade
from crumbjar.errors import BadCrumb, BadCrumbs, BadTick
from crumbjar.jars import Jar
from crumbjar.ledgers import Ledger
from crumbjar.requests import Request
from crumbjar.words import LAST_TICK

RULES = ("com", "net", "far.a.com")
HOSTS = ("a.com", "www.a.com", "y.www.a.com", "x.far.a.com", "b.com", "t.net", "localhost")
PATHS = ("/", "/x", "/x/y")
ORIGINS = (("https", "a.com"), ("https", "b.com"), ("http", "a.com"))
SPACES = (None, None, (("https", "a.com"), False), (("https", "a.com"), True), (("https", "b.com"), True),
          (("http", "localhost"), False), (("https", "t.net"), False))
NAMES = ("n", "n", "m", "", "__Host-n", "__Secure-m", "k" * 4095, "k" * 4096)
TEXTS = ("n={}", "m={}", "n={}; Path=/", "{}", "n={}; Domain=a.com", "m={}; Domain=b.com; Max-Age=40", "n={}; Secure",
         "n={}; Secure; SameSite=None", "n={}; Secure; SameSite=None; Partitioned", "m={}; Secure; Partitioned; Max-Age=15",
         "n={}; HttpOnly", "m={}; SameSite=Strict", "n={}; Max-Age=0", "m={}; Max-Age=0; Path=/", "k={}; Max-Age=9",
         "__Secure-n={}", "__Host-n={}; Secure; Path=/", "l={}; Priority=Low", "h={}; Priority=High; Max-Age=30",
         "n={}; Domain=com", "", "o={}; SameSite=Lax; Max-Age=25", "n={}; Max-Age=0; Domain=a.com", "n={}; Max-Age=99999999",
         "m={}; Domain=www.a.com; Path=/x; Max-Age=300", "n={}; Path=/x; Max-Age=130")
DEVICES = ("a", "desk", "phone")


def some_request(numbers, by):
    """A request of any kind."""
    target = (numbers.choice(("https", "https", "http")), numbers.choice(HOSTS), numbers.choice(PATHS))
    if by == "script":
        return Request((target,), frames=numbers.choice(((), (), ORIGINS[:1], ORIGINS[1:2])), by="script")
    kind = numbers.randrange(5)
    if kind == 0:
        return Request((target,), frames=tuple(numbers.choices(ORIGINS, k=numbers.randint(1, 2))))
    if kind == 1:
        return Request((target,), starter=numbers.choice(ORIGINS), is_reading=numbers.random() < 0.5)
    if kind == 2:
        return Request((numbers.choice(ORIGINS) + ("/",), target))
    return Request((target,))


def some_deed(numbers, tick):
    """A deed of any kind."""
    kind = numbers.choices(("receive", "write", "look", "close", "clear"), (12, 5, 8, 1, 1))[0]
    if kind == "close":
        return (kind, tick)
    if kind == "clear":
        return (kind, numbers.choice(("a.com", "b.com", "t.net", "www.a.com")), tick)
    request = some_request(numbers, "script" if kind == "write" else "http")
    if kind == "look":
        return (kind, request, tick)
    return (kind, request, numbers.choice(TEXTS).replace("{}", str(numbers.randrange(3))), tick)


def some_deeds(numbers, tick, many):
    """A list of deeds from a tick on."""
    deeds = []
    for _ in range(many):
        deeds.append(some_deed(numbers, tick))
        tick = min(LAST_TICK, tick + numbers.choice((0, 0, 0, 1, 5, 60)))
    return deeds


def done(jar, deed):
    """The answer of a jar to a deed that it does."""
    return getattr(jar, deed[0])(*deed[1:])


def some_crumb(numbers, top):
    """A crumb under the rules that was seen no later than a tick."""
    while True:
        born = numbers.randint(max(0, top - numbers.choice((5, 150, 400))), top)
        seen = numbers.randint(born, top)
        try:
            crumb = Crumb(
                numbers.choice(NAMES), numbers.choice(("", "1", "2")), numbers.choice(HOSTS), is_exact=numbers.random() < 0.5,
                path=numbers.choice(("/", "/x")), is_secure=numbers.random() < 0.6, is_hidden=numbers.random() < 0.3,
                same=numbers.choice(("strict", "lax", "none", "default", "default")), priority=numbers.choice((0, 1, 1, 2)),
                space=numbers.choice(SPACES), born=(born, numbers.randint(0, 6)), seen=seen,
                ends=numbers.choice((None, None, top - 1, top + 1, seen + 1, seen + 50, seen + 34560000, seen + 34559990)))
        except BadCrumb:
            continue
        if is_crumb(RULES, crumb):
            return crumb


def some_jar(numbers, top):
    """A jar with a few crumbs of any kind, at a tick."""
    limits = (numbers.choice((1, 2, 3, 20)), numbers.choice((1, 2, 4, 7, 9, 60)))
    crumbs = {}
    for _ in range(numbers.randint(0, 7)):
        crumb = some_crumb(numbers, top)
        crumbs[crumb.key] = crumb
    while True:
        try:
            return Jar(RULES, most_of_family=limits[0], most=limits[1], crumbs=tuple(crumbs.values()), tick=top)
        except BadCrumbs:
            del crumbs[numbers.choice(list(crumbs))]


def like_jar(numbers, jar):
    """A jar that is like another one, but for a few settings of its crumbs."""
    crumbs = {crumb.key: crumb for crumb in jar.crumbs}
    for _ in range(numbers.choice((0, 1, 1, 1, 2, 3)) if crumbs else 0):
        one, two = numbers.choices(list(crumbs.values()), k=2)
        other = some_crumb(numbers, jar.tick)
        fields = numbers.choice((("value",), ("is_secure", "same"), ("priority",), ("born",), ("seen",), ("is_hidden",),
                                 ("ends",), ("same",), (), ()))
        try:
            if fields:
                crumbs[one.key] = remade(one, **{field: getattr(other, field) for field in fields})
            elif numbers.random() < 0.6:
                crumbs[one.key], crumbs[two.key] = remade(one, born=two.born), remade(two, born=one.born)
            elif len(crumbs) > 1:
                del crumbs[one.key]
        except BadCrumb:
            pass
    try:
        return Jar(jar.rules, most_of_family=jar.most_of_family, most=jar.most, crumbs=tuple(crumbs.values()), tick=jar.tick)
    except BadTick:
        return jar


def some_ledger(numbers):
    """A ledger with a few of few keys, so that two of them have keys in common."""
    writes, seens = {}, {}
    for _ in range(numbers.randint(0, 4)):
        crumb = remade(some_crumb(random.Random(numbers.randrange(6)), 60), ends=None)
        stamp = (numbers.randint(60, 63), numbers.choice(DEVICES), numbers.randrange(2))
        if numbers.random() < 0.3:
            writes[crumb.key] = (stamp, stamp, None)
        elif numbers.random() < 0.8:
            birth = min(stamp, (numbers.randint(50, 63), numbers.choice(DEVICES), numbers.randrange(2)))
            content = (crumb.value, crumb.is_secure, crumb.is_hidden, crumb.same, crumb.priority, numbers.randint(64, 66))
            writes[crumb.key] = (stamp, birth, content)
        if numbers.random() < 0.5:
            seens[crumb.key] = numbers.randint(60, 66)
    return Ledger(writes=writes, seens=seens)
