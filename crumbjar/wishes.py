"""Wishes that a jar grants: the fewest lines by which a request comes to send just some pairs."""

from crumbjar.addresses import is_safe, origin_of
from crumbjar.crumbs import DEFAULT, DEFAULT_PRIORITY
from crumbjar.errors import NoWish
from crumbjar.limits import members, swept
from crumbjar.lines import Line, write_line
from crumbjar.requests import SCRIPT, Traits
from crumbjar.shelves import best_row, need_wish


def shelf_of(jar, request, tick):
    """Give the shelf of a request: what it sends, in order."""
    crumbs = jar.chosen(request, tick)
    shelved = [(len(crumb.path), crumb.name, crumb.value) for crumb in crumbs]
    return (len(request.target[2]), tuple(shelved))


def why_not(jar, request, wish, tick):
    """Give the word that tells why a wish is not granted, None if it is."""
    chosen = jar.chosen(request, tick)
    need_wish(wish)
    traits = Traits(jar.rules, request)
    if request.by == SCRIPT:
        return "script"
    if not traits.is_near:
        return "far"
    if not traits.is_safe:
        return "unsafe"
    keys = {crumb.key: True for crumb in chosen}
    others = [crumb for crumb in swept(jar.crumbs, tick)[0] if crumb.key not in keys]
    group = members(jar.rules, others, (None, traits.family))
    if len(wish) + len(others) > jar.most or len(wish) + len(group) > jar.most_of_family:
        return "many"
    return None


def lines_for(jar, request, wish, tick):
    """Give the tuple of the lines after which just the pairs of a wish are sent."""
    word = why_not(jar, request, wish, tick)
    if word is not None:
        raise NoWish(word)
    crumbs = jar.chosen(request, tick)
    row = best_row(shelf_of(jar, request, tick), wish)
    staying = {at: True for at, _ in row}
    lines = [_removing(crumb) for at, crumb in enumerate(crumbs) if at not in staying]
    lines.extend(_wished_lines(wish, {place: crumbs[at] for at, place in row}, request.target[2], tick))
    return tuple([write_line(line) for line in lines])


def grant(jar, request, wish, tick):
    """Let a jar receive the lines for a wish, and give how many there are."""
    lines = lines_for(jar, request, wish, tick)
    for line in lines:
        jar.receive(request, line, tick)
    return len(lines)


def _wished_lines(wish, kept, path, tick):
    """Give the lines for the pairs of a wish, of which those at some places keep a crumb."""
    lines = []
    last = max(kept, default=0)
    for place, (name, value) in enumerate(wish):
        if place not in kept:
            # Whatever is born at the path in front of it is sent behind it.
            lines.append(Line(name, value, path=path if place < last else "/", is_secure=True))
            continue
        crumb = kept[place]
        path = crumb.path
        if crumb.value != value:
            lines.append(_changing(crumb, value, tick))
    return lines


def _removing(crumb):
    return Line(
        crumb.name,
        crumb.value,
        age=0,
        domain=_domain_of(crumb),
        path=crumb.path,
        is_secure=True,
        is_partitioned=crumb.space is not None,
    )


def _changing(crumb, value, tick):
    return Line(
        crumb.name,
        value,
        age=None if crumb.ends is None else crumb.ends - tick,
        domain=_domain_of(crumb),
        path=crumb.path,
        is_secure=crumb.is_secure,
        is_hidden=crumb.is_hidden,
        same=None if crumb.same == DEFAULT else crumb.same,
        is_partitioned=crumb.space is not None,
        priority=None if crumb.priority == DEFAULT_PRIORITY else crumb.priority,
    )


def _domain_of(crumb):
    return None if crumb.is_exact else crumb.host
