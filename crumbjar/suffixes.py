"""Rules for suffixes, and the suffixes, families and sites that they give."""

from crumbjar.addresses import is_origin
from crumbjar.errors import BadOrigin, BadRules
from crumbjar.hosts import are_labels, is_address_host, need_host

MOST_RULES = 30
ANY = "*"
EXCEPTION = "!"


def need_rules(rules):
    """Raise BadRules unless the value is a tuple of rules for suffixes."""
    if not isinstance(rules, tuple):
        raise BadRules(None)
    for index, rule in enumerate(rules):
        if index == MOST_RULES or not _is_rule(rule) or rule in rules[:index]:
            raise BadRules(index)


def suffix_of(rules, host):
    """Give the suffix of a host, None for an address host."""
    need_rules(rules)
    need_host(host)
    return known_suffix(rules, host)


def family_of(rules, host):
    """Give the family of a host."""
    need_rules(rules)
    need_host(host)
    return known_family(rules, host)


def is_suffix(rules, host):
    """Tell whether a host is its own suffix."""
    return suffix_of(rules, host) == host


def known_suffix(rules, host):
    """Give the suffix of a host as suffix_of does, for rules and a host that are known to be right."""
    if is_address_host(host):
        return None
    return _last_labels(host, _suffix_size(rules, host))


def known_family(rules, host):
    """Give the family of a host as family_of does, for rules and a host that are known to be right."""
    suffix = known_suffix(rules, host)
    if suffix is None:
        return host
    return _last_labels(host, _size(suffix) + 1)


def site_of(rules, origin):
    """Give the site of an origin."""
    need_rules(rules)
    if not is_origin(origin):
        raise BadOrigin(origin)
    scheme, host = origin
    return (scheme, known_family(rules, host))


def _is_rule(value):
    if not isinstance(value, str):
        return False
    if value.startswith(EXCEPTION):
        labels = value[1:].split(".")
        return len(labels) > 1 and are_labels(labels)
    return are_labels(value.removeprefix(ANY + ".").split("."))


def _size(text):
    return text.count(".") + 1


def _last_labels(host, many):
    return ".".join(host.split(".")[-many:])


def _suffix_size(rules, host):
    # Without a rule that matches, the last label is the suffix, as if the
    # shortest rule matched; 0 stands for no exception.
    longest = 1
    exception = 0
    for rule in rules:
        if rule.startswith(EXCEPTION):
            if _matches(rule[1:], host):
                exception = max(exception, _size(rule))
        elif _matches(rule, host):
            longest = max(longest, _size(rule))
    if exception > 0:
        return exception - 1
    return longest


def _matches(pattern, host):
    if _size(pattern) > _size(host):
        return False
    ending = _last_labels(host, _size(pattern))
    if pattern.startswith(ANY):
        return ending.partition(".")[2] == pattern.partition(".")[2]
    return ending == pattern
