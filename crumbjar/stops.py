"""When crumbs stop being sent, and how the answer to a request changes by it."""

from crumbjar.errors import BadCrumb, BadTick
from crumbjar.jars import answer_of
from crumbjar.requests import Traits
from crumbjar.rules import YOUTH, broken_rules, sent_by_same
from crumbjar.words import LAST_TICK, is_tick


def stop_of(rules, crumb, request, tick):
    """Give the tick and the word with which a crumb that is sent stops, None if it never does."""
    if broken_rules(rules, crumb, request, tick) != ():
        raise BadCrumb("sent")
    return _stop(crumb, Traits(rules, request))


def next_change(jar, request):
    """Give the first tick above the jar's at which the answer to a request changes, or None."""
    return min([tick for tick, _, _ in _stops(jar, request)], default=None)


def answers(jar, request, goal):
    """Give the list of the pieces (tick, answer, stops) of the answer up to a goal."""
    stops = _stops(jar, request)
    if not is_tick(goal) or goal < jar.tick:
        raise BadTick(goal)
    pieces = [(jar.tick, answer_of(jar.chosen(request, jar.tick)), ())]
    for tick in sorted(set([at for at, _, _ in stops if at <= goal])):
        stopped = [(key, word) for at, key, word in stops if at == tick]
        pieces.append((tick, answer_of(jar.chosen(request, tick)), tuple(stopped)))
    return pieces


def _stops(jar, request):
    """Give the triples (tick, key, word) of the stops of all crumbs that are sent, in their order."""
    sent = jar.chosen(request, jar.tick)
    traits = Traits(jar.rules, request)
    stops = []
    for crumb in sent:
        stop = _stop(crumb, traits)
        if stop is not None:
            stops.append((stop[0], crumb.key, stop[1]))
    return stops


def _stop(crumb, traits):
    youth_end = crumb.born[0] + YOUTH
    if not sent_by_same(crumb, traits) and youth_end <= LAST_TICK:
        if crumb.ends is None or youth_end < crumb.ends:
            return (youth_end, "birth")
    if crumb.ends is None:
        return None
    return (crumb.ends, "ended")
