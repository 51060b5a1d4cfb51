"""The future of jars: settled jars, deeds that tell two jars apart, and deeds that are done in a copy."""

from crumbjar.births import is_young, meet_in_family, settled_births, settled_seens
from crumbjar.crumbs import DEFAULT, remade
from crumbjar.errors import BadDeeds, BadLedger, BadTick, Unlike
from crumbjar.jars import Jar, need_jar
from crumbjar.limits import swept
from crumbjar.probes import separating_deeds
from crumbjar.stamps import is_key
from crumbjar.suffixes import known_family, need_rules
from crumbjar.words import is_tick

# The words of the deeds, and how many values a deed has, its word among them.
SIZES = {"receive": 4, "write": 4, "look": 3, "close": 2, "clear": 3}


def meets(rules, key, other):
    """Tell whether two keys meet."""
    need_rules(rules)
    for given in (key, other):
        if not is_key(given):
            raise BadLedger(given)
    return known_family(rules, key[1]) == known_family(rules, other[1]) and meet_in_family(key, other)


def settled(jar, tick):
    """Give the jar that is settled at a tick."""
    need_jar(jar)
    _need_later(tick, [jar])
    return _settled(jar, tick)


def same_future(one, other, tick):
    """Tell whether two jars have the same future from a tick on."""
    _need_alike(one, other, tick)
    return _settled(one, tick) == _settled(other, tick)


def separating(one, other, tick):
    """Give a tuple of deeds from a tick on that two jars answer differently, None if there are none."""
    _need_alike(one, other, tick)
    return separating_deeds(_settled(one, tick), _settled(other, tick), tick)


def replayed(jar, deeds):
    """Give the list of the answers of a copy of a jar to deeds."""
    need_jar(jar)
    if not isinstance(deeds, (list, tuple)):
        raise BadDeeds(None)
    for index, deed in enumerate(deeds):
        if not _is_deed(deed):
            raise BadDeeds(index)
    copy = jar.copied()
    return [_answer(copy, deed) for deed in deeds]


def _need_later(tick, jars):
    if not is_tick(tick) or tick <= max([jar.tick for jar in jars]):
        raise BadTick(tick)


def _need_alike(one, other, tick):
    need_jar(one)
    need_jar(other)
    _need_later(tick, [one, other])
    if one.rules != other.rules:
        raise Unlike("rules")
    if one.most_of_family != other.most_of_family:
        raise Unlike("most_of_family")
    if one.most != other.most:
        raise Unlike("most")


def _settled(jar, tick):
    crumbs, _ = swept(jar.crumbs, tick)
    births = settled_births(jar.rules, crumbs, tick)
    seens = settled_seens(crumbs, births)
    changed = []
    for crumb in crumbs:
        same = "lax" if crumb.same == DEFAULT and not is_young(crumb, tick) else crumb.same
        changed.append(remade(crumb, same=same, born=births[crumb.key], seen=seens[crumb.key]))
    return Jar(
        jar.rules,
        most_of_family=jar.most_of_family,
        most=jar.most,
        crumbs=tuple(changed),
        tick=tick - 1,
    )


def _is_deed(value):
    if not isinstance(value, tuple) or len(value) == 0 or not isinstance(value[0], str):
        return False
    return len(value) == SIZES.get(value[0])


def _answer(jar, deed):
    word = deed[0]
    if word == "receive":
        return jar.receive(deed[1], deed[2], deed[3])
    if word == "write":
        return jar.write(deed[1], deed[2], deed[3])
    if word == "look":
        return jar.look(deed[1], deed[2])
    if word == "close":
        return jar.close(deed[1])
    return jar.clear(deed[1], deed[2])
