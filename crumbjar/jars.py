"""Jars: the crumbs that are kept, and the deeds that change them."""

from crumbjar.crumbs import is_crumb, remade
from crumbjar.errors import BadCrumbs, BadJar, BadRequest, BadTick
from crumbjar.hosts import need_host
from crumbjar.limits import goes, group_of, need_limits, swept
from crumbjar.lines import read_line
from crumbjar.requests import HTTP, SCRIPT, Traits, need_request
from crumbjar.rules import is_sent, made_crumb, paper_of
from crumbjar.suffixes import known_family, need_rules
from crumbjar.words import is_tick


class Jar:
    """Crumbs under rules and limits, a tick, the count of the deeds, and their log."""

    def __init__(self, rules, *, most_of_family=20, most=60, crumbs=(), tick=0):
        need_rules(rules)
        need_limits(most_of_family, most)
        _need_crumbs(rules, crumbs, most_of_family, most)
        _need_tick_of(crumbs, tick)
        self.rules = rules
        self.most_of_family = most_of_family
        self.most = most
        self.crumbs = _by_keys(crumbs)
        self.tick = tick
        self.deeds = max([crumb.born[1] for crumb in crumbs], default=0)
        self.log = ()

    def __eq__(self, other):
        return isinstance(other, Jar) and _parts_of(self) == _parts_of(other)

    def receive(self, request, text, tick):
        """Take a line of an answer, and tell what came of it."""
        _need_request_by(request, HTTP)
        return self._take(request, text, tick)

    def write(self, request, text, tick):
        """Take a line of a script, and tell what came of it."""
        _need_request_by(request, SCRIPT)
        return self._take(request, text, tick)

    def look(self, request, tick):
        """Give the answer to a request, whose crumbs are seen by it."""
        chosen = self.chosen(request, tick)
        self._begin(tick)
        seen = {crumb.key: remade(crumb, seen=tick) for crumb in chosen}
        self.crumbs = tuple([seen.get(crumb.key, crumb) for crumb in self.crumbs])
        return answer_of(chosen)

    def close(self, tick):
        """End the session, and give the keys of the crumbs that go by it."""
        self._need_tick(tick)
        self._begin(tick)
        return self._drop([crumb.key for crumb in self.crumbs if crumb.ends is None], "closed")

    def clear(self, family, tick):
        """Drop the crumbs of a family, and give their keys."""
        need_host(family)
        self._need_tick(tick)
        self._begin(tick)
        keys = [crumb.key for crumb in self.crumbs if known_family(self.rules, crumb.host) == family]
        return self._drop(keys, "cleared")

    def chosen(self, request, tick):
        """Give the crumbs that are sent with a request at a tick, in order."""
        need_request(request)
        self._need_tick(tick)
        traits = Traits(self.rules, request)
        sent = [crumb for crumb in self.crumbs if is_sent(self.rules, crumb, traits, tick)]
        return tuple(sorted(sent, key=_place_in_answer))

    def crumb_at(self, key):
        """Give the crumb with a key, None if there is none."""
        for crumb in self.crumbs:
            if crumb.key == key:
                return crumb
        return None

    def copied(self):
        """Give a jar of its own that is like this one, with the log."""
        jar = Jar(
            self.rules,
            most_of_family=self.most_of_family,
            most=self.most,
            crumbs=self.crumbs,
            tick=self.tick,
        )
        jar.deeds = self.deeds
        jar.log = self.log
        return jar

    def _need_tick(self, tick):
        if not is_tick(tick) or tick < self.tick:
            raise BadTick(tick)

    def _begin(self, tick):
        ends = {crumb.key: crumb.ends for crumb in self.crumbs}
        self.crumbs, ended = swept(self.crumbs, tick)
        self.tick = tick
        self.deeds += 1
        self.log += tuple([(self.deeds, ends[key], "ended", key) for key in ended])

    def _note(self, word, keys):
        self.log += tuple([(self.deeds, self.tick, word, key) for key in keys])

    def _drop(self, keys, word):
        gone = {key: True for key in keys}
        self.crumbs = tuple([crumb for crumb in self.crumbs if crumb.key not in gone])
        self._note(word, keys)
        return tuple(keys)

    def _take(self, request, text, tick):
        line = read_line(text)
        self._need_tick(tick)
        self._begin(tick)
        traits = Traits(self.rules, request)
        word, key = paper_of(self.rules, traits, line, tick, self.crumbs)
        if word == "gone":
            return self._remove(key)
        if word == "set":
            return self._put(made_crumb(self.rules, traits, line, (tick, self.deeds)))
        return word

    def _remove(self, key):
        if self.crumb_at(key) is None:
            return "nothing"
        self._drop([key], "removed")
        return "removed"

    def _put(self, crumb):
        old = self.crumb_at(crumb.key)
        others = [other for other in self.crumbs if other.key != crumb.key]
        if old is not None:
            self.crumbs = _by_keys([*others, remade(crumb, born=old.born)])
            self._note("changed", [crumb.key])
            return "changed"
        self.crumbs = _by_keys([*others, crumb])
        self._note("added", [crumb.key])
        self._keep_limits(crumb.key)
        return "set"

    def _keep_limits(self, key):
        gone = goes(self.rules, self.crumbs, key, most_of_family=self.most_of_family, most=self.most)
        if gone is not None:
            self._drop([gone], "evicted")


def header(pairs):
    """Give the text of the pairs (name, value) of an answer."""
    return "; ".join([value if name == "" else f"{name}={value}" for name, value in pairs])


def need_jar(value):
    """Raise BadJar unless the value is a jar."""
    if not isinstance(value, Jar):
        raise BadJar(value)


def answer_of(crumbs):
    """Give the pairs (name, value) of crumbs that are sent."""
    return tuple([(crumb.name, crumb.value) for crumb in crumbs])


def _parts_of(jar):
    return (jar.rules, jar.most_of_family, jar.most, jar.crumbs, jar.tick, jar.deeds)


def _by_keys(crumbs):
    return tuple(sorted(crumbs, key=lambda crumb: crumb.key))


def _place_in_answer(crumb):
    return (-len(crumb.path), crumb.born, crumb.key)


def _need_request_by(request, by):
    need_request(request)
    if request.by != by:
        raise BadRequest("by")


def _need_crumbs(rules, crumbs, most_of_family, most):
    if not isinstance(crumbs, tuple):
        raise BadCrumbs(None)
    keys = {}
    counts = {}
    for index, crumb in enumerate(crumbs):
        if not is_crumb(rules, crumb) or crumb.key in keys:
            raise BadCrumbs(index)
        group = group_of(rules, crumb)
        keys[crumb.key] = True
        counts[group] = counts.get(group, 0) + 1
        if counts[group] > most_of_family or len(keys) > most:
            raise BadCrumbs(index)


def _need_tick_of(crumbs, tick):
    if not is_tick(tick):
        raise BadTick(tick)
    for crumb in crumbs:
        # What was born was seen no earlier.
        if crumb.seen > tick:
            raise BadTick(tick)
