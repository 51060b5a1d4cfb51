"""Crumbs: what one can be, with and without rules, its key and its end."""

from crumbjar.addresses import is_origin, is_path, is_safe
from crumbjar.attributes import MOST_AGE, PRIORITIES, SAMES
from crumbjar.errors import BadCrumb, BadLine
from crumbjar.hosts import host_fits, is_address_host, is_host
from crumbjar.lines import Line
from crumbjar.suffixes import known_family, known_suffix, need_rules
from crumbjar.words import is_integer, is_tick, need_tick

DEFAULT = "default"
DEFAULT_PRIORITY = 1
SECURE_MARK = "__secure-"
HOST_MARK = "__host-"


class Crumb:
    """A small named value that is kept, and where it is sent."""

    def __init__(self, name, value, host, *, is_exact=True, path="/", is_secure=False, is_hidden=False,
                 same="default", priority=1, space=None, born=(0, 0), seen=0, ends=None):
        _need_name_and_value(name, value)
        mark = mark_of(name, value)
        _need("host", is_host(host))
        _need("is_exact", isinstance(is_exact, bool))
        _need("is_exact", is_exact or mark != HOST_MARK and not is_address_host(host))
        _need("path", is_path(path) and (path == "/" or mark != HOST_MARK))
        _need("is_secure", isinstance(is_secure, bool) and (is_secure or mark is None))
        _need("is_hidden", isinstance(is_hidden, bool))
        _need("same", isinstance(same, str) and same in (DEFAULT, *SAMES) and (is_secure or same != "none"))
        _need("priority", is_integer(priority) and 0 <= priority < len(PRIORITIES))
        _need("space", space is None or _is_partition(space) and is_secure and _can_be_in(space, host, same))
        _need("born", _is_birth(born))
        _need("seen", is_tick(seen) and born[0] <= seen)
        _need("ends", ends is None or is_tick(ends) and seen < ends <= seen + MOST_AGE)
        self.name = name
        self.value = value
        self.host = host
        self.is_exact = is_exact
        self.path = path
        self.is_secure = is_secure
        self.is_hidden = is_hidden
        self.same = same
        self.priority = priority
        self.space = space
        self.born = born
        self.seen = seen
        self.ends = ends
        self.key = key_of(space, host, is_exact, path, name)

    def __eq__(self, other):
        return isinstance(other, Crumb) and _settings_of(self) == _settings_of(other)


def remade(crumb, **settings):
    """Give a crumb like this one, with other settings."""
    _need("crumb", isinstance(crumb, Crumb))
    parts = _settings_of(crumb)
    for field in settings:
        _need(field, field in parts)
    parts.update(settings)
    return Crumb(**parts)


def is_crumb(rules, value):
    """Tell whether a value is a crumb under these rules."""
    need_rules(rules)
    if not isinstance(value, Crumb):
        return False
    if not value.is_exact and known_suffix(rules, value.host) == value.host:
        return False
    if value.space is None:
        return True
    site, is_foreign = value.space
    if known_family(rules, site[1]) != site[1]:
        return False
    return is_foreign or known_family(rules, value.host) == site[1]


def has_ended(crumb, tick):
    """Tell whether a crumb has ended at a tick."""
    _need("crumb", isinstance(crumb, Crumb))
    need_tick(tick)
    return crumb.ends is not None and crumb.ends <= tick


def need_crumb(rules, value):
    """Raise BadCrumb unless the value is a crumb under these rules."""
    _need("crumb", is_crumb(rules, value))


def need_crumbs(rules, value):
    """Raise BadCrumb unless the value is a tuple of crumbs under these rules."""
    _need("crumbs", isinstance(value, tuple) and all([is_crumb(rules, crumb) for crumb in value]))


def mark_of(name, value):
    """Give the mark with which the marked text of a name and a value begins, None without one."""
    text = (name or value).lower()
    for mark in (SECURE_MARK, HOST_MARK):
        if text.startswith(mark):
            return mark
    return None


def key_of(space, host, is_exact, path, name):
    """Give the key of a crumb with these parts."""
    return (space or (), host, is_exact, path, name)


def content_of(crumb):
    """Give all that a crumb has but its key, its born and its seen."""
    return (crumb.value, crumb.is_secure, crumb.is_hidden, crumb.same, crumb.priority, crumb.ends)


def crumb_with(key, content, born, seen):
    """Give the crumb with a key and a content that have the right sizes; BadCrumb if there is none."""
    space, host, is_exact, path, name = key
    value, is_secure, is_hidden, same, priority, ends = content
    return Crumb(
        name,
        value,
        host,
        is_exact=is_exact,
        path=path,
        is_secure=is_secure,
        is_hidden=is_hidden,
        same=same,
        priority=priority,
        space=space or None,
        born=born,
        seen=seen,
        ends=ends,
    )


def _need(field, is_right):
    if not is_right:
        raise BadCrumb(field)


def _need_name_and_value(name, value):
    try:
        Line(name, value)
    except BadLine as wrong:
        raise BadCrumb(wrong.field) from None


def _settings_of(crumb):
    return {
        "name": crumb.name,
        "value": crumb.value,
        "host": crumb.host,
        "is_exact": crumb.is_exact,
        "path": crumb.path,
        "is_secure": crumb.is_secure,
        "is_hidden": crumb.is_hidden,
        "same": crumb.same,
        "priority": crumb.priority,
        "space": crumb.space,
        "born": crumb.born,
        "seen": crumb.seen,
        "ends": crumb.ends,
    }


def _is_partition(value):
    if not isinstance(value, tuple) or len(value) != 2:
        return False
    return is_origin(value[0]) and isinstance(value[1], bool)


def _can_be_in(space, host, same):
    site, is_foreign = space
    if is_foreign:
        return same == "none"
    return host_fits(host, site[1]) and is_safe((site[0], host))


def _is_birth(value):
    if not isinstance(value, tuple) or len(value) != 2:
        return False
    return is_tick(value[0]) and is_integer(value[1]) and value[1] >= 0
