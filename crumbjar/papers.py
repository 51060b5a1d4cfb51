"""Requests that send a crumb, and requests that send one crumb and not another one."""

from crumbjar.addresses import SCHEMES, origin_of
from crumbjar.crumbs import need_crumb
from crumbjar.hosts import LABEL_SIGNS, is_host
from crumbjar.requests import HTTP, SCRIPT, Request, Traits
from crumbjar.rules import is_sent
from crumbjar.suffixes import known_family, need_rules
from crumbjar.words import need_tick

# Hosts of one label are families of their own, whatever the rules are.
STRANGERS = (("https", "a"), ("https", "b"))


def request_for(rules, crumb, tick):
    """Give a request that sends a crumb, None if the crumb has ended."""
    need_rules(rules)
    need_crumb(rules, crumb)
    need_tick(tick)
    for request in _requests(rules, crumb):
        if _sends(rules, crumb, request, tick):
            return request
    return None


def only_first(rules, crumb, other, tick):
    """Give a request that sends a crumb and not another one, None if there is none."""
    need_rules(rules)
    need_crumb(rules, crumb)
    need_crumb(rules, other)
    need_tick(tick)
    for request in _requests(rules, crumb):
        if _sends(rules, crumb, request, tick) and not _sends(rules, other, request, tick):
            return request
    return None


def stranger_to(rules, host):
    """Give an origin of another family than that of a host."""
    return [origin for origin in STRANGERS if origin[1] != known_family(rules, host)][0]


def _sends(rules, crumb, request, tick):
    return is_sent(rules, crumb, Traits(rules, request), tick)


def _requests(rules, crumb):
    """Give a request of each kind that matters for what is sent to the places of a crumb."""
    stranger = stranger_to(rules, crumb.host)
    requests = []
    for host in _hosts(rules, crumb):
        for scheme in SCHEMES:
            # Paths below the crumb's own one fit whatever that fits, too.
            requests.extend(_requests_to((scheme, host, crumb.path), crumb.space, stranger))
    return requests


def _requests_to(target, space, stranger):
    chain = ((*stranger, "/"), target)
    frames = (stranger,) if space is None else (space[0], stranger)
    return [
        Request((target,)),
        Request((target,), by=SCRIPT),
        Request((target,), starter=stranger),
        Request((target,), starter=stranger, is_reading=False),
        Request(chain, frames=(origin_of(target),)),
        Request((target,), frames=frames, by=HTTP),
        Request((target,), frames=frames, by=SCRIPT),
    ]


def _hosts(rules, crumb):
    # One host below that of the crumb is enough: where one is of its family,
    # so is one that no rule names, and there are more signs than rules.
    if not crumb.is_exact:
        for sign in LABEL_SIGNS:
            host = sign + "." + crumb.host
            if is_host(host) and known_family(rules, host) == known_family(rules, crumb.host):
                return (crumb.host, host)
    return (crumb.host,)
