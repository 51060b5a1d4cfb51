"""The rules by which lines are refused, the crumbs that lines make, and the rules for sending."""

from crumbjar.addresses import default_path, path_fits
from crumbjar.attributes import MOST_AGE
from crumbjar.crumbs import (
    DEFAULT,
    DEFAULT_PRIORITY,
    HOST_MARK,
    Crumb,
    has_ended,
    key_of,
    mark_of,
    need_crumb,
    need_crumbs,
)
from crumbjar.errors import BadCrumb
from crumbjar.hosts import host_fits, is_address_host
from crumbjar.lines import NoCrumb, read_line
from crumbjar.requests import Traits, need_request
from crumbjar.suffixes import known_family, known_suffix, need_rules
from crumbjar.words import LAST_TICK, is_integer, need_tick

# For so many ticks from its birth on a crumb without a SameSite is sent more widely.
YOUTH = 120


def line_paper(rules, request, text, tick, crumbs):
    """Give the pair (word, key) for a line that meets these crumbs."""
    need_rules(rules)
    need_request(request)
    line = read_line(text)
    need_tick(tick)
    need_crumbs(rules, crumbs)
    return paper_of(rules, Traits(rules, request), line, tick, crumbs)


def crumb_of(rules, request, text, tick, number):
    """Give the crumb that a line makes, whatever crumbs there are, or None."""
    need_rules(rules)
    need_request(request)
    line = read_line(text)
    need_tick(tick)
    if not is_integer(number) or number < 0:
        raise BadCrumb("born")
    traits = Traits(rules, request)
    if _word_against(rules, traits, line) is not None:
        return None
    return made_crumb(rules, traits, line, (tick, number))


def broken_rules(rules, crumb, request, tick):
    """Give the tuple of the words of the rules for sending that are broken."""
    need_rules(rules)
    need_crumb(rules, crumb)
    need_request(request)
    need_tick(tick)
    return words_broken(rules, crumb, Traits(rules, request), tick)


def paper_of(rules, traits, line, tick, crumbs):
    """Give what line_paper gives, for arguments that are known to be right."""
    word = _word_against(rules, traits, line)
    if word is not None:
        return (word, ())
    left = [crumb for crumb in crumbs if not has_ended(crumb, tick)]
    covered = _covered_keys(rules, traits, line, left)
    if covered != []:
        return ("covers", min(covered))
    key = new_key(rules, traits, line)
    if traits.is_script and key in [crumb.key for crumb in left if crumb.is_hidden]:
        return ("kept", key)
    return ("gone" if _ends_at_once(line, tick) else "set", key)


def made_crumb(rules, traits, line, born):
    """Give the crumb that a line makes that breaks no rule, None if it would have ended."""
    if _ends_at_once(line, born[0]):
        return None
    host, is_exact = _reach(rules, traits, line)
    return Crumb(
        line.name,
        line.value,
        host,
        is_exact=is_exact,
        path=_path(traits, line),
        is_secure=line.is_secure,
        is_hidden=line.is_hidden,
        same=line.same or DEFAULT,
        priority=DEFAULT_PRIORITY if line.priority is None else line.priority,
        space=_space(traits, line),
        born=born,
        seen=born[0],
        ends=_end(line, born[0]),
    )


def new_key(rules, traits, line):
    """Give the key of the crumb that a line makes or removes that breaks no rule."""
    host, is_exact = _reach(rules, traits, line)
    return key_of(_space(traits, line), host, is_exact, _path(traits, line), line.name)


def words_broken(rules, crumb, traits, tick):
    """Give what broken_rules gives, for arguments that are known to be right."""
    words = []
    for word, is_kept in (
        ("ended", not has_ended(crumb, tick)),
        ("partition", crumb.space is None or crumb.space == traits.partition),
        ("host", _reaches(rules, crumb, traits)),
        ("path", path_fits(traits.path, crumb.path)),
        ("secure", traits.is_safe or not crumb.is_secure),
        ("hidden", not (traits.is_script and crumb.is_hidden)),
        ("same", sent_by_same(crumb, traits) or _sent_as_young(crumb, traits, tick)),
    ):
        if not is_kept:
            words.append(word)
    return tuple(words)


def is_sent(rules, crumb, traits, tick):
    """Tell whether no rule for sending is broken, for arguments that are known to be right."""
    # Most crumbs of a jar are for other hosts: that is asked first.
    return _reaches(rules, crumb, traits) and words_broken(rules, crumb, traits, tick) == ()


def sent_by_same(crumb, traits):
    """Tell whether a crumb may be sent by its same alone, however old it is."""
    if crumb.same == "strict":
        return traits.is_near
    return crumb.same == "none" or traits.is_lax


def _sent_as_young(crumb, traits, tick):
    if crumb.same != DEFAULT or traits.has_frames:
        return False
    return tick < crumb.born[0] + YOUTH


def _reaches(rules, crumb, traits):
    if traits.host == crumb.host:
        return True
    if crumb.is_exact or not host_fits(traits.host, crumb.host):
        return False
    return known_family(rules, crumb.host) == traits.family


def _word_against(rules, traits, line):
    if isinstance(line, NoCrumb):
        return "line"
    same = line.same or DEFAULT
    for word, is_kept in (
        ("domain", line.domain is None or host_fits(traits.host, line.domain)),
        ("public", line.domain in (None, traits.host) or known_suffix(rules, line.domain) != line.domain),
        ("family", line.domain is None or known_family(rules, line.domain) == traits.family),
        ("secure", traits.is_safe or not line.is_secure),
        ("hidden", not (traits.is_script and line.is_hidden)),
        ("cross", same == "none" or not traits.has_frames or traits.is_near),
        ("none", line.is_secure or same != "none"),
        ("prefix", _keeps_mark(line)),
        ("partition", line.is_secure or not line.is_partitioned),
    ):
        if not is_kept:
            return word
    return None


def _keeps_mark(line):
    mark = mark_of(line.name, line.value)
    if mark == HOST_MARK:
        return line.is_secure and line.path == "/" and line.domain is None
    return line.is_secure or mark is None


def _reach(rules, traits, line):
    if line.domain is None:
        return (traits.host, True)
    if line.domain != traits.host:
        return (line.domain, False)
    return (traits.host, is_address_host(traits.host) or known_suffix(rules, traits.host) == traits.host)


def _path(traits, line):
    return line.path or default_path(traits.path)


def _space(traits, line):
    return traits.partition if line.is_partitioned else None


def _end(line, tick):
    if line.age is None and line.expires is None:
        return None
    end = line.expires if line.age is None else tick + line.age
    return min(end, tick + MOST_AGE, LAST_TICK)


def _ends_at_once(line, tick):
    end = _end(line, tick)
    return end is not None and end <= tick


def _covered_keys(rules, traits, line, crumbs):
    keys = []
    if traits.is_safe:
        return keys
    host = line.domain or traits.host
    for crumb in crumbs:
        if crumb.is_secure and crumb.name == line.name and crumb.space is None:
            if _overlap(rules, crumb.host, host) and path_fits(_path(traits, line), crumb.path):
                keys.append(crumb.key)
    return keys


def _overlap(rules, host, other):
    if not host_fits(host, other) and not host_fits(other, host):
        return False
    return known_family(rules, host) == known_family(rules, other)
