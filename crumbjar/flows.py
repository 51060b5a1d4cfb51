"""Where the crumbs of a browser's rows come from, which rows belong together, and whether rows are right."""

from crumbjar.asking import SETTING, pairs_sent, triple_given
from crumbjar.errors import BadRows, NoRow
from crumbjar.hosts import need_host
from crumbjar.jars import Jar
from crumbjar.pieces import pieces_of
from crumbjar.requests import HTTP, SCRIPT, Request
from crumbjar.stamps import is_key
from crumbjar.suffixes import known_family, need_rules
from crumbjar.words import is_integer, is_tick


def setter_of(rows, number, key):
    """Give the number of the row in front of one that set or changed a crumb last, None if there is none."""
    _need_rows(rows)
    if not is_integer(number) or number not in [row[0] for row in rows]:
        raise NoRow(number)
    return max([row[0] for row in rows if row[0] < number and key in _keys_set(row)], default=None)


def alone(rules, rows, family):
    """Give the tuple of the rows of a family, and of those that close."""
    _need_rows_of_family(rules, rows, family)
    return tuple([row for row in rows if row[2] == "close" or _is_of_family(rules, row, family)])


def groups(rules, rows, family, name):
    """Give the tuple of the groups of the rows of a family that the values of a name join."""
    _need_rows_of_family(rules, rows, family)
    values = {}
    numbers = {}
    for row in rows:
        if row[2] == "get" and _is_of_family(rules, row, family):
            values[row[0]] = _values_in(row, name)
            for value in values[row[0]]:
                numbers.setdefault(value, []).append(row[0])
    found = []
    grouped = {}
    for number in values:
        if number not in grouped and values[number] != []:
            group = _joined(number, values, numbers)
            grouped.update({other: True for other in group})
            found.append(group)
    return tuple(found)


def audit(rules, rows, *, most_of_family=20, most=60):
    """Give None if a new jar sends and gives what rows tell, otherwise the first row that differs, and in what."""
    need_rules(rules)
    _need_rows(rows)
    jar = Jar(rules, most_of_family=most_of_family, most=most)
    for number, tick, kind, request, sent, given in rows:
        if kind == "close":
            jar.close(tick)
        elif kind == "get" and pairs_sent(jar, request, tick) != sent:
            return (number, "sent")
        for triple in given:
            if triple_given(jar, request, triple[0], tick) != triple:
                return (number, "given")
    return None


def _need_rows_of_family(rules, rows, family):
    need_rules(rules)
    _need_rows(rows)
    need_host(family)


def _need_rows(rows):
    if not isinstance(rows, tuple):
        raise BadRows(None)
    last_number = 0
    last_tick = 0
    for index, row in enumerate(rows):
        if not _is_row(row) or row[0] <= last_number or row[1] < last_tick:
            raise BadRows(index)
        last_number, last_tick = row[:2]


def _is_row(value):
    if not isinstance(value, tuple) or len(value) != 6:
        return False
    number, tick, kind, request, sent, given = value
    if not is_integer(number) or number < 1 or not is_tick(tick):
        return False
    if not _are_all(sent, _is_sent) or not _are_all(given, _is_given):
        return False
    if kind == "get":
        return _is_request_by(request, HTTP)
    if kind == "write":
        return _is_request_by(request, SCRIPT) and sent == () and len(given) == 1
    return kind == "close" and request is None and sent == () and given == ()


def _is_request_by(value, by):
    return isinstance(value, Request) and value.by == by


def _are_all(value, is_right):
    return isinstance(value, tuple) and all([is_right(item) for item in value])


def _is_sent(value):
    if not isinstance(value, tuple) or len(value) != 2:
        return False
    return is_key(value[0]) and isinstance(value[1], str)


def _is_given(value):
    if not isinstance(value, tuple) or len(value) != 3:
        return False
    text, word, key = value
    return isinstance(text, str) and isinstance(word, str) and (key is None or is_key(key))


def _is_of_family(rules, row, family):
    return known_family(rules, row[3].target[1]) == family


def _keys_set(row):
    return [key for _, word, key in row[5] if word in SETTING]


def _values_in(row, name):
    """Give the values of crumbs of a name that a row sends, sets or changes."""
    values = [value for key, value in row[4] if key[-1] == name]
    for text, word, key in row[5]:
        if word in SETTING and key is not None and key[-1] == name:
            values.append(pieces_of(text)[0][1])
    return values


def _joined(number, values, numbers):
    """Give the ascending tuple of the rows that values join with one."""
    found = {number: True}
    told = {}
    waiting = [number]
    while waiting != []:
        joined = waiting.pop()
        for value in values[joined]:
            others = [] if value in told else numbers[value]
            told[value] = True
            waiting.extend([other for other in others if other not in found])
            found.update({other: True for other in others})
    return tuple(sorted(found))
