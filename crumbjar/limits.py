"""The limits of jars: groups, ranks, and which crumbs go."""

from crumbjar.crumbs import has_ended
from crumbjar.errors import BadLimit
from crumbjar.suffixes import known_family
from crumbjar.words import is_integer

MOST_LIMIT = 1000


def rank_of(crumb):
    """Give what decides which crumb goes first: the one with the least rank."""
    return (crumb.priority, crumb.is_secure, crumb.seen, crumb.key)


def group_of(rules, crumb):
    """Give the group of a crumb, its partition and its family."""
    return (crumb.space, known_family(rules, crumb.host))


def swept(crumbs, tick):
    """Give the crumbs that are left at a tick, and the keys of the others, by ends and keys."""
    ended = sorted([(crumb.ends, crumb.key) for crumb in crumbs if has_ended(crumb, tick)])
    left = [crumb for crumb in crumbs if not has_ended(crumb, tick)]
    return (tuple(left), tuple([key for _, key in ended]))


def goes(rules, crumbs, key, *, most_of_family, most):
    """Give the key of the crumb that goes if the one with this key was added last, or None."""
    added = [crumb for crumb in crumbs if crumb.key == key][0]
    group = members(rules, crumbs, group_of(rules, added))
    if len(group) > most_of_family:
        return min(group, key=rank_of).key
    if len(crumbs) > most:
        return min(crumbs, key=rank_of).key
    return None


def members(rules, crumbs, group):
    """Give the list of the crumbs of a group."""
    space, family = group
    # Hosts of a family end with it: the others need no look at the rules.
    near = [crumb for crumb in crumbs if crumb.space == space and crumb.host.endswith(family)]
    return [crumb for crumb in near if known_family(rules, crumb.host) == family]


def need_limits(most_of_family, most):
    """Raise BadLimit unless these can be the two limits of a jar."""
    for field, limit in (("most_of_family", most_of_family), ("most", most)):
        if not is_integer(limit) or not 1 <= limit <= MOST_LIMIT:
            raise BadLimit(field)
