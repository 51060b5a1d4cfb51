"""Browsers by chance, with visits to tables by chance."""

from crumbjar.browsers import Browser

RULES = ("com", "net")
HOSTS = ("a.com", "www.a.com", "b.com", "t.net", "x.t.net", "localhost")
FAMILIES = ("a.com", "b.com", "t.net", "localhost")
TEXTS = ("n=*", "n=*; Path=/", "m=v", "n=*; Domain=a.com", "n=*; Domain=t.net; Secure; SameSite=None", "u=*; Secure; SameSite=None",
         "p=*; Secure; SameSite=None; Partitioned; Path=/", "p=*; Secure; SameSite=None; Partitioned; Max-Age=3; Path=/", "s=*; SameSite=Strict",
         "s=*; SameSite=Lax; Path=/", "n=*; Max-Age=0", "n=v; HttpOnly; Path=/", "*=*; Max-Age=5", "*", "u=*; Secure; Max-Age=2", "", "m=*; Domain=com",
         "s=*; SameSite=Strict; Max-Age=0; Path=/", "__Host-h=*; Secure; Path=/", "d=*; Path=/")


def some_address(numbers):
    """An address of few."""
    return (numbers.choice(("https", "https", "https", "http")), numbers.choice(HOSTS), numbers.choice(("/", "/x", "/x/y")))


def some_answer(numbers, addresses, texts):
    """An answer with lines, perhaps a goal, and parts."""
    lines = tuple((numbers.choice(("always", "new", "new")), numbers.choice(texts)) for _ in range(numbers.randint(0, 4)))
    goal = numbers.choice(addresses) if numbers.random() < 0.15 else None
    parts = []
    for _ in range(numbers.choice((0, 0, 1, 2, 4))):
        kind = numbers.choice(("frame", "picture", "picture", "write"))
        parts.append((kind, numbers.choice(texts) if kind == "write" else numbers.choice(addresses)))
    return (lines, goal, tuple(parts))


def some_browser(numbers, visits=12, texts=TEXTS, **limits):
    """A browser that has made some visits."""
    addresses = list(dict.fromkeys(some_address(numbers) for _ in range(9)))
    table = tuple((address, some_answer(numbers, addresses, texts)) for address in addresses)
    browser = Browser(RULES, table, **limits)
    tick = 5
    for _ in range(visits):
        tick += numbers.choice((0, 0, 1, 2, 60, 130))
        kind = numbers.random()
        if kind < 0.1:
            browser.close(tick)
        elif kind < 0.5 and browser.pages:
            browser.follow(numbers.choice(addresses), tick, is_reading=numbers.random() < 0.7)
        else:
            browser.visit(numbers.choice(addresses), tick, is_reading=numbers.random() < 0.8)
    return browser
