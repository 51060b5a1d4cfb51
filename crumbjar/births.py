"""Births: which are young, which keys meet, and the births and seens of settled jars."""

from heapq import heapify, heappop, heappush

from crumbjar.attributes import MOST_AGE
from crumbjar.hosts import host_fits
from crumbjar.limits import rank_of
from crumbjar.lines import MOST_OF_LINE
from crumbjar.rules import YOUTH
from crumbjar.suffixes import known_family
from crumbjar.words import LAST_TICK


def is_young(crumb, tick):
    """Tell whether the birth of a crumb is young at a tick."""
    is_abroad = crumb.space is not None and crumb.space[1]
    return tick < crumb.born[0] + YOUTH and not is_abroad


def meet_in_family(key, other):
    """Tell whether two keys of one family meet."""
    space, host, is_exact, path, name = key
    other_space, other_host, is_other_exact, other_path, other_name = other
    if path != other_path or name == other_name and len(name) >= MOST_OF_LINE:
        return False
    if space != other_space and space != () and other_space != ():
        return False
    if host == other_host:
        return True
    return not is_exact and host_fits(other_host, host) or not is_other_exact and host_fits(host, other_host)


def pairs_that_meet(rules, crumbs):
    """Give the list of the pairs of keys of these crumbs that meet, in their order."""
    buckets = {}
    pairs = []
    for crumb in crumbs:
        bucket = buckets.setdefault((crumb.path, known_family(rules, crumb.host)), [])
        pairs.extend([(key, crumb.key) for key in bucket if meet_in_family(key, crumb.key)])
        bucket.append(crumb.key)
    return pairs


def settled_births(rules, crumbs, tick):
    """Give the dict from keys to births that crumbs have in the jar that is settled at a tick."""
    ordered = sorted(crumbs, key=lambda crumb: (crumb.born, crumb.key))
    earlier = {crumb.key: [] for crumb in ordered}
    for key, later in pairs_that_meet(rules, ordered):
        earlier[later].append(key)
    ticks = {}
    for crumb in ordered:
        if is_young(crumb, tick):
            # Births behind this one are young up to the last tick, as it is.
            ticks[crumb.key] = min(crumb.born[0], LAST_TICK - YOUTH + 1)
        else:
            ticks[crumb.key] = max([ticks[key] for key in earlier[crumb.key]], default=0)
    numbers = _numbers(ticks, earlier)
    return {key: (ticks[key], numbers[key]) for key in ticks}


def settled_seens(crumbs, births):
    """Give the dict from keys to seens that crumbs have in the settled jar, where they have these births."""
    seens = {}
    last = {}
    for crumb in sorted(crumbs, key=rank_of):
        rank = (crumb.priority, crumb.is_secure)
        seen = births[crumb.key][0]
        if crumb.ends is not None:
            seen = max(seen, crumb.ends - MOST_AGE)
        if rank in last:
            before, key = last[rank]
            seen = max(seen, before if key < crumb.key else before + 1)
        last[rank] = (seen, crumb.key)
        seens[crumb.key] = seen
    return seens


def _numbers(ticks, earlier):
    """Give the numbers of keys: by ticks, then by keys, but none ahead of those earlier."""
    waits = {key: len(others) for key, others in earlier.items()}
    later = {key: [] for key in ticks}
    for key, others in earlier.items():
        for other in others:
            later[other].append(key)
    ready = [(ticks[key], key) for key in ticks if waits[key] == 0]
    heapify(ready)
    numbers = {}
    while ready != []:
        _, key = heappop(ready)
        numbers[key] = len(numbers) + 1
        for other in later[key]:
            waits[other] -= 1
            # No tick is below those of earlier ones, so none comes too late.
            if waits[other] == 0:
                heappush(ready, (ticks[other], other))
    return numbers
