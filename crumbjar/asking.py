"""How jars are asked in the rows of a browser: what they send, and what comes of each line."""

from crumbjar.lines import read_line
from crumbjar.requests import HTTP, Traits
from crumbjar.rules import new_key

# The words of lines that break no rule.
SETTING = ("set", "changed")
KEEPING_RULES = ("set", "changed", "removed", "nothing")


def pairs_sent(jar, request, tick):
    """Look at a jar, and give the pairs (key, value) of the crumbs that are sent, in order."""
    pairs = tuple([(crumb.key, crumb.value) for crumb in jar.chosen(request, tick)])
    jar.look(request, tick)
    return pairs


def triple_given(jar, request, text, tick):
    """Let a jar receive or write a line, and give the triple (text, word, key) that tells what came of it."""
    if request.by == HTTP:
        word = jar.receive(request, text, tick)
    else:
        word = jar.write(request, text, tick)
    if word not in KEEPING_RULES:
        return (text, word, None)
    return (text, word, new_key(jar.rules, Traits(jar.rules, request), read_line(text)))
