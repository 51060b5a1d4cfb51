"""Deeds that tell apart two settled jars that differ."""

from crumbjar.births import is_young, pairs_that_meet
from crumbjar.limits import rank_of
from crumbjar.lines import MOST_OF_LINE, Line, write_line
from crumbjar.papers import only_first, request_for, stranger_to
from crumbjar.requests import Request
from crumbjar.rules import YOUTH
from crumbjar.suffixes import known_family
from crumbjar.words import LAST_TICK

# The greatest priority, and is_secure: crumbs with both go last.
LAST_TO_GO = (2, True)


def separating_deeds(one, other, tick):
    """Give separating deeds from a tick on for two jars that are settled at it and differ."""
    deeds = (
        _by_ends(one, other, tick)
        or _by_looks(one, other, tick)
        or _by_youth(one, other, tick)
        or _by_order(one, other, tick)
        or _by_ranks(one, other, tick)
    )
    return None if deeds is None else tuple(deeds)


# Each of these gives the list of the deeds that show one kind of difference,
# None if the jars have none of it, and relies on those ahead having found none.


def _by_ends(one, other, tick):
    ends = _ends_of(one)
    other_ends = _ends_of(other)
    for key in sorted({**ends, **other_ends}):
        # A crumb that is not there is like one that has ended.
        end = ends.get(key, tick)
        other_end = other_ends.get(key, tick)
        if end != other_end:
            return [_removal(one.rules, key, min(end, other_end))]
    return None


def _by_looks(one, other, tick):
    for crumb, twin in zip(one.crumbs, other.crumbs):
        request = _telling_request(one.rules, crumb, twin, tick)
        if request is not None:
            return [*_removals_but(one, [crumb.key], tick), ("look", request, tick)]
    return None


def _by_youth(one, other, tick):
    rules = one.rules
    for crumb, twin in zip(one.crumbs, other.crumbs):
        births = [crumb.born[0], twin.born[0]]
        if min(births) < max(births) and (is_young(crumb, tick) or is_young(twin, tick)):
            return [
                *_removals_but(one, [crumb.key], tick),
                _setting(rules, crumb.key, tick, "1", None),
                ("look", _writing_request(rules, crumb.key), max(tick, min(births) + YOUTH)),
            ]
    return None


def _by_order(one, other, tick):
    births = {crumb.key: crumb.born for crumb in one.crumbs}
    other_births = {crumb.key: crumb.born for crumb in other.crumbs}
    for key, later in pairs_that_meet(one.rules, one.crumbs):
        if (births[key] < births[later]) != (other_births[key] < other_births[later]):
            return [
                *_removals_but(one, [key, later], tick),
                _setting(one.rules, key, tick, "1", "none"),
                _setting(one.rules, later, tick, "2", "none"),
                ("look", _request_for_both(one.rules, key, later), tick),
            ]
    return None


def _by_ranks(one, other, tick):
    order = sorted(one.crumbs, key=rank_of)
    other_order = sorted(other.crumbs, key=rank_of)
    for crumb, twin in zip(one.crumbs, other.crumbs):
        kind = rank_of(crumb)[:2]
        other_kind = rank_of(twin)[:2]
        # Fresh crumbs of the lesser kind go behind the crumb in one jar, and
        # ahead of it in the other one.
        if kind < other_kind:
            return _fill_and_ask(one, kind, _place_of(order, crumb.key), crumb.key, tick)
        if other_kind < kind:
            return _fill_and_ask(one, other_kind, _place_of(other_order, crumb.key), crumb.key, tick)
    for at, crumb in enumerate(order):
        if crumb.key != other_order[at].key:
            return _fill_and_ask(one, LAST_TO_GO, at + 1, crumb.key, tick)
    return None


def _ends_of(jar):
    never = LAST_TICK + 1
    return {crumb.key: never if crumb.ends is None else crumb.ends for crumb in jar.crumbs}


def _telling_request(rules, crumb, twin, tick):
    """Give a request that tells two crumbs with one key apart, None if there is none."""
    if _shown(crumb) == _shown(twin):
        return None
    for first, second in ((crumb, twin), (twin, crumb)):
        request = only_first(rules, first, second, tick)
        if request is not None:
            return request
    return request_for(rules, crumb, tick) if crumb.value != twin.value else None


def _shown(crumb):
    return (crumb.value, crumb.is_secure, crumb.is_hidden, crumb.same)


def _fill_and_ask(jar, kind, many, key, tick):
    """Give deeds by which so many crumbs of a jar go, if fresh ones of a kind go later, and ask for one of them."""
    fresh = jar.most - len(jar.crumbs) + many
    return [*_fresh_settings(jar, kind, fresh, tick), _removal(jar.rules, key, tick)]


def _fresh_settings(jar, kind, many, tick):
    families = {known_family(jar.rules, crumb.host): True for crumb in jar.crumbs}
    # Hosts of one label are families of their own, whatever the rules are.
    hosts = [f"n{number}" for number in range(many + len(families))]
    priority, is_secure = kind
    text = write_line(Line("n", "1", is_secure=is_secure, priority=priority))
    fresh = [host for host in hosts if host not in families][:many]
    return [("receive", Request((("https", host, "/"),)), text, tick) for host in fresh]


def _place_of(crumbs, key):
    return [crumb.key for crumb in crumbs].index(key) + 1


def _removals_but(jar, keys, tick):
    return [_removal(jar.rules, crumb.key, tick) for crumb in jar.crumbs if crumb.key not in keys]


def _removal(rules, key, tick):
    return ("receive", _own_request(rules, key), _line_for(key, "1", 0, "none"), tick)


def _setting(rules, key, tick, value, same):
    return ("receive", _own_request(rules, key), _line_for(key, value, None, same), tick)


def _line_for(key, value, age, same):
    """Give a line that sets or removes the crumb with a key, whatever the key is."""
    space, host, is_exact, path, name = key
    # A name can be so long that no value has room beside it.
    line = Line(
        name,
        value if len(name) < MOST_OF_LINE else "",
        age=age,
        domain=None if is_exact else host,
        path=path,
        is_secure=True,
        same=same,
        is_partitioned=space != (),
    )
    return write_line(line)


def _own_request(rules, key):
    """Give a request by which a line sets or removes the crumb with a key."""
    space, host, _, path, _ = key
    return _request_in(rules, space, host, path)


def _request_for_both(rules, key, other):
    """Give a request that sends two crumbs whose keys meet, if they are "none"."""
    # Of two hosts one of which is below the other one, the longer one is reached by both.
    host = max(key[1], other[1], key=len)
    return _request_in(rules, key[0] or other[0], host, key[3])


def _writing_request(rules, key):
    """Give a request without frames that is not lax."""
    target = _own_request(rules, key).target
    return Request((target,), starter=stranger_to(rules, key[1]), is_reading=False)


def _request_in(rules, space, host, path):
    """Give a request to a safe target in a space: near, unless the space is foreign."""
    if space == ():
        return Request((("https", host, path),))
    site, is_foreign = space
    if not is_foreign:
        return Request(((site[0], host, path),))
    return Request((("https", host, path),), frames=(site, stranger_to(rules, host)))
