"""Ledgers: what devices wrote and saw, how it is merged, and ledgers from jars and back."""

from crumbjar.crumbs import content_of, crumb_with, is_crumb, remade
from crumbjar.errors import BadDevice, BadLedger, BadTick
from crumbjar.jars import Jar, need_jar
from crumbjar.limits import group_of, need_limits, rank_of
from crumbjar.stamps import is_device, is_key, is_write, rank_of_write
from crumbjar.suffixes import need_rules
from crumbjar.words import is_tick

# The words of the rows of a log that give a key its stamp.
STAMPING = ("added", "changed", "removed", "cleared")


class Ledger:
    """The writes of keys, and the ticks at which their crumbs were seen."""

    def __init__(self, *, writes=None, seens=None):
        for given in (writes, seens):
            if given is not None and not isinstance(given, dict):
                raise BadLedger(given)
        self._writes = _checked(writes or {}, is_write)
        self._seens = _checked(seens or {}, _is_seen)

    @property
    def writes(self):
        """The writes, by ascending keys, in a dict of their own."""
        return {key: self._writes[key] for key in self._writes}

    @property
    def seens(self):
        """The ticks, by ascending keys, in a dict of their own."""
        return {key: self._seens[key] for key in self._seens}

    def __eq__(self, other):
        return isinstance(other, Ledger) and _parts_of(self) == _parts_of(other)

    def merged(self, *others):
        """Give the ledger with the greatest write and the greatest seen of each key."""
        for other in others:
            need_ledger(other)
        ledgers = [self, *others]
        return Ledger(
            writes=_greatest([ledger.writes for ledger in ledgers], rank_of_write),
            seens=_greatest([ledger.seens for ledger in ledgers], _rank_of_seen),
        )

    def is_within(self, other):
        """Tell whether merging both gives the other one."""
        return self.merged(other) == other

    def news_for(self, other):
        """Give the writes and seens that another ledger lacks or has less."""
        need_ledger(other)
        return Ledger(
            writes=_news(self.writes, other.writes, rank_of_write),
            seens=_news(self.seens, other.seens, _rank_of_seen),
        )


def ledger_of(jar, device):
    """Give the ledger of a jar for a device."""
    need_jar(jar)
    if not is_device(device):
        raise BadDevice(device)
    stamps, evicted = _told_by_log(jar, device)
    writes = {key: _gone(stamp) for key, stamp in stamps.items() if key not in evicted}
    seens = {}
    for crumb in jar.crumbs:
        tick, number = crumb.born
        stamp = stamps.get(crumb.key, (crumb.seen, device, number))
        if crumb.ends is None:
            writes[crumb.key] = _gone(stamp)
        else:
            writes[crumb.key] = (stamp, (tick, device, number), content_of(crumb))
            seens[crumb.key] = crumb.seen
    return Ledger(writes=writes, seens=seens)


def jar_of(ledger, rules, tick, *, most_of_family=20, most=60):
    """Give the jar of a ledger at a tick."""
    need_ledger(ledger)
    need_rules(rules)
    if not is_tick(tick) or tick < _last_tick(ledger):
        raise BadTick(tick)
    need_limits(most_of_family, most)
    groups = {}
    for crumb in _numbered(_crumbs_with_births(ledger, rules, tick)):
        groups.setdefault(group_of(rules, crumb), []).append(crumb)
    left = []
    for group in groups.values():
        left.extend(_greatest_ranks(group, most_of_family))
    crumbs = tuple(_greatest_ranks(left, most))
    return Jar(rules, most_of_family=most_of_family, most=most, crumbs=crumbs, tick=tick)


def need_ledger(value):
    """Raise BadLedger unless the value is a ledger."""
    if not isinstance(value, Ledger):
        raise BadLedger(None)


def _parts_of(ledger):
    return (ledger._writes, ledger._seens)


def _checked(given, is_right):
    for key, worth in given.items():
        if not is_right(key, worth):
            raise BadLedger(key)
    return {key: given[key] for key in sorted(given)}


def _is_seen(key, value):
    return is_key(key) and is_tick(value)


def _rank_of_seen(tick):
    return tick


def _greatest(tables, rank):
    greatest = {}
    for table in tables:
        for key, worth in table.items():
            if key not in greatest or rank(greatest[key]) < rank(worth):
                greatest[key] = worth
    return greatest


def _news(own, others, rank):
    return {key: own[key] for key in own if key not in others or rank(others[key]) < rank(own[key])}


def _gone(stamp):
    return (stamp, stamp, None)


def _told_by_log(jar, device):
    """Give the dict of the stamps of keys by the log of a jar, and a dict of the keys evicted last."""
    stamps = {}
    words = {}
    for number, tick, word, key in jar.log:
        words[key] = word
        if word in STAMPING:
            stamps[key] = (tick, device, number)
    return (stamps, {key: True for key in words if words[key] == "evicted"})


def _last_tick(ledger):
    ticks = [stamp[0] for stamp, _, _ in ledger.writes.values()]
    return max(ticks + list(ledger.seens.values()), default=0)


def _crumbs_with_births(ledger, rules, tick):
    """Give the pairs (birth, crumb) of all writes that are crumbs at a tick."""
    seens = ledger.seens
    pairs = []
    for key, (stamp, birth, content) in ledger.writes.items():
        # What has ended may have been seen behind its end, as no crumb is.
        if content is not None and content[-1] > tick:
            seen = max(stamp[0], seens.get(key, 0))
            crumb = crumb_with(key, content, (birth[0], 0), seen)
            if is_crumb(rules, crumb):
                pairs.append((birth, crumb))
    return pairs


def _numbered(pairs):
    """Give the crumbs of pairs (birth, crumb), numbered by their births, equal ones by keys."""
    ordered = sorted(pairs, key=lambda pair: (pair[0], pair[1].key))
    numbered = []
    for number, (birth, crumb) in enumerate(ordered, start=1):
        numbered.append(remade(crumb, born=(birth[0], number)))
    return numbered


def _greatest_ranks(crumbs, many):
    return sorted(crumbs, key=rank_of)[-many:]
