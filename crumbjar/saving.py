"""Jars and ledgers as texts, and how just these texts are read back."""

from crumbjar.crumbs import content_of, crumb_with
from crumbjar.errors import BadCrumb, BadCrumbs, BadLimit, BadRules, BadText
from crumbjar.jars import Jar, need_jar
from crumbjar.ledgers import Ledger, need_ledger
from crumbjar.limits import need_limits
from crumbjar.stamps import is_key, is_write
from crumbjar.suffixes import need_rules
from crumbjar.words import is_digits, is_tick

RULE = "rule "
NOTHING = "-"
QUOTE = "\""
# Of integers with more digits nothing is promised, and Python does not read the longest.
MOST_DIGITS = 1000
# How many words lines have, and in front of which one those of a key and of a content end.
CRUMB_WORDS = 15
SEEN_WORDS = 7
KEY_END = 6
CONTENT_END = 12
# How many words of a write stand behind the key.
GONE_WORDS = 3
WRITE_WORDS = 12


def jar_text(jar):
    """Give the text of a jar."""
    need_jar(jar)
    lines = [_head_line(jar.tick, jar.most_of_family, jar.most)]
    lines.extend([RULE + rule for rule in jar.rules])
    lines.extend([_crumb_line(crumb) for crumb in jar.crumbs])
    return "\n".join(lines)


def jar_at(text):
    """Give the jar that a text tells; its log is empty."""
    lines = _lines_of(text)
    tick, most_of_family, most = _head_of(lines[0])
    rules = _rules_of(lines)
    # The line behind the rules, counted from 1.
    first = len(rules) + 2
    crumbs = _crumbs_of(lines[first - 1:], tick)
    try:
        jar = Jar(rules, most_of_family=most_of_family, most=most, crumbs=tuple(crumbs), tick=tick)
    except BadCrumbs as wrong:
        raise BadText(first + wrong.index) from None
    if first + len(crumbs) <= len(lines):
        raise BadText(first + len(crumbs))
    return jar


def ledger_text(ledger):
    """Give the text of a ledger."""
    need_ledger(ledger)
    writes = ledger.writes
    seens = ledger.seens
    lines = ["ledger"]
    for key in sorted({**writes, **seens}):
        if key in writes:
            lines.append(_write_line(key, writes[key]))
        if key in seens:
            lines.append(_seen_line(key, seens[key]))
    return "\n".join(lines)


def ledger_at(text):
    """Give the ledger that a text tells."""
    lines = _lines_of(text)
    if lines[0] != "ledger":
        raise BadText(1)
    tables = ({}, {})
    last = ()
    for number, line in enumerate(lines[1:], start=2):
        entry = _entry_of(line)
        if entry is None or entry[:2] <= last:
            raise BadText(number)
        last = entry[:2]
        key, part, worth = entry
        tables[part][key] = worth
    return Ledger(writes=tables[0], seens=tables[1])


def _lines_of(text):
    if not isinstance(text, str):
        raise BadText(0)
    return text.split("\n")


def _head_line(tick, most_of_family, most):
    return f"jar {tick} {most_of_family} {most}"


def _crumb_line(crumb):
    born, number = crumb.born
    return f"crumb {_key_text(crumb.key)} {_content_text(content_of(crumb))} {born} {number} {crumb.seen}"


def _write_line(key, write):
    stamp, birth, content = write
    if content is None:
        return f"gone {_key_text(key)} {_stamp_text(stamp)}"
    return f"write {_key_text(key)} {_stamp_text(stamp)} {_stamp_text(birth)} {_content_text(content)}"


def _seen_line(key, tick):
    return f"seen {_key_text(key)} {tick}"


def _key_text(key):
    space, host, is_exact, path, name = key
    reach = "exact" if is_exact else "below"
    return f"{_space_text(space)} {host} {reach} {path} {_quoted(name)}"


def _space_text(space):
    if space == ():
        return NOTHING
    (scheme, family), is_foreign = space
    return f"{scheme}:{family}:{_far_or_near(is_foreign)}"


def _far_or_near(is_foreign):
    return "far" if is_foreign else "near"


def _content_text(content):
    value, is_secure, is_hidden, same, priority, ends = content
    words = [
        _quoted(value),
        "secure" if is_secure else NOTHING,
        "hidden" if is_hidden else NOTHING,
        same,
        str(priority),
        NOTHING if ends is None else str(ends),
    ]
    return " ".join(words)


def _stamp_text(stamp):
    tick, device, count = stamp
    return f"{tick} {device} {count}"


def _quoted(text):
    escaped = text.replace("\\", "\\\\").replace(QUOTE, "\\" + QUOTE).replace("\t", "\\t")
    return QUOTE + escaped + QUOTE


# In reading, words are taken as they come, and what they tell is written once
# more: whatever differs from the line that was read is no written line.


def _head_of(line):
    words = line.split(" ")
    if len(words) != 4:
        raise BadText(1)
    tick, most_of_family, most = [_number_of(word) for word in words[1:]]
    try:
        need_limits(most_of_family, most)
    except BadLimit:
        raise BadText(1) from None
    if not is_tick(tick) or line != _head_line(tick, most_of_family, most):
        raise BadText(1)
    return (tick, most_of_family, most)


def _rules_of(lines):
    rules = []
    for line in lines[1:]:
        if not line.startswith(RULE):
            break
        rules.append(line.removeprefix(RULE))
    try:
        need_rules(tuple(rules))
    except BadRules as wrong:
        raise BadText(wrong.index + 2) from None
    return tuple(rules)


def _crumbs_of(lines, tick):
    """Give the list of the crumbs of lines, up to the first one that cannot follow those ahead of it."""
    crumbs = []
    last = ()
    for line in lines:
        crumb = _crumb_of(line)
        if crumb is None or crumb.key <= last or crumb.seen > tick:
            break
        last = crumb.key
        crumbs.append(crumb)
    return crumbs


def _crumb_of(line):
    words = _words_of(line)
    if len(words) != CRUMB_WORDS:
        return None
    born, number, seen = [_number_of(word) for word in words[CONTENT_END:]]
    try:
        crumb = crumb_with(_key_of(words[1:KEY_END]), _content_of(words[KEY_END:CONTENT_END]), (born, number), seen)
    except BadCrumb:
        return None
    return crumb if _crumb_line(crumb) == line else None


def _entry_of(line):
    """Give the key, the part of the ledger (0 for writes) and the write or seen that a line tells, or None."""
    words = _words_of(line)
    if len(words) < SEEN_WORDS:
        return None
    key = _key_of(words[1:KEY_END])
    if len(words) == SEEN_WORDS:
        tick = _number_of(words[KEY_END])
        is_right = is_key(key) and is_tick(tick) and _seen_line(key, tick) == line
        return (key, 1, tick) if is_right else None
    write = _write_of(words[KEY_END:])
    return (key, 0, write) if is_write(key, write) and _write_line(key, write) == line else None


def _write_of(words):
    if len(words) == GONE_WORDS:
        stamp = _stamp_of(words)
        return (stamp, stamp, None)
    if len(words) == WRITE_WORDS:
        return (_stamp_of(words[:3]), _stamp_of(words[3:6]), _content_of(words[6:]))
    return None


def _key_of(words):
    space, host, reach, path, name = words
    return (_space_of(space), host, reach == "exact", path, _unquoted(name))


def _space_of(word):
    if word.count(":") != 2:
        return ()
    scheme, family, reach = word.split(":")
    return ((scheme, family), reach == "far")


def _content_of(words):
    value, secure, hidden, same, priority, ends = words
    return (_unquoted(value), secure == "secure", hidden == "hidden", same, _number_of(priority), _number_of(ends))


def _stamp_of(words):
    tick, device, count = words
    return (_number_of(tick), device, _number_of(count))


def _number_of(word):
    return int(word) if is_digits(word) and len(word) <= MOST_DIGITS else None


def _words_of(line):
    """Give the words between the single blanks of a line; a quoted one may have blanks of its own."""
    words = []
    start = 0
    is_quoted = False
    is_escaped = False
    for at, sign in enumerate(line):
        if sign == " " and not is_quoted:
            words.append(line[start:at])
            start = at + 1
        elif sign == QUOTE and not is_escaped and (is_quoted or at == start):
            is_quoted = not is_quoted
        is_escaped = sign == "\\" and not is_escaped
    return [*words, line[start:]]


def _unquoted(word):
    signs = []
    is_escaped = False
    for sign in word[1:-1]:
        if is_escaped:
            signs.append("\t" if sign == "t" else sign)
        elif sign != "\\":
            signs.append(sign)
        is_escaped = sign == "\\" and not is_escaped
    return "".join(signs)
