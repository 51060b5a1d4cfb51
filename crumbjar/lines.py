"""What a line tells: reading and writing it."""

from crumbjar.addresses import is_path
from crumbjar.attributes import MOST_AGE, PRIORITIES, SAMES
from crumbjar.dates import date_text
from crumbjar.errors import BadLine
from crumbjar.hosts import is_host
from crumbjar.pieces import is_trimmed, judged, pieces_of
from crumbjar.words import is_integer, is_tick

MOST_OF_LINE = 4096


class Line:
    """What a line tells of a crumb."""

    def __init__(self, name, value, *, expires=None, age=None, domain=None, path=None, is_secure=False,
                 is_hidden=False, same=None, is_partitioned=False, priority=None):
        for field, is_right in (
            ("name", _is_name(name)),
            ("value", _is_value(value, name)),
            ("expires", expires is None or is_tick(expires)),
            ("age", age is None or _is_from_0(age, MOST_AGE)),
            ("domain", domain is None or is_host(domain)),
            ("path", path is None or is_path(path)),
            ("is_secure", isinstance(is_secure, bool)),
            ("is_hidden", isinstance(is_hidden, bool)),
            ("same", same is None or isinstance(same, str) and same in SAMES),
            ("is_partitioned", isinstance(is_partitioned, bool)),
            ("priority", priority is None or _is_from_0(priority, len(PRIORITIES) - 1)),
        ):
            if not is_right:
                raise BadLine(field)
        self.name = name
        self.value = value
        self.expires = expires
        self.age = age
        self.domain = domain
        self.path = path
        self.is_secure = is_secure
        self.is_hidden = is_hidden
        self.same = same
        self.is_partitioned = is_partitioned
        self.priority = priority

    def __eq__(self, other):
        return isinstance(other, Line) and _parts_of(self) == _parts_of(other)


class NoCrumb:
    """The word that tells why a line gives no crumb."""

    def __init__(self, word):
        self.word = word

    def __eq__(self, other):
        return isinstance(other, NoCrumb) and self.word == other.word


def read_line(text):
    """Give the Line that a text tells, or a NoCrumb."""
    pieces = pieces_of(text)
    name, value = pieces[0]
    if _has_control(text):
        return NoCrumb("control")
    if name == "" and value == "":
        return NoCrumb("empty")
    if len(name + value) > MOST_OF_LINE:
        return NoCrumb("long")
    told = judged(pieces)[1]
    return Line(
        name,
        value,
        expires=told.get("expires"),
        age=told.get("max-age"),
        domain=told.get("domain"),
        path=told.get("path"),
        is_secure="secure" in told,
        is_hidden="httponly" in told,
        same=told.get("samesite"),
        is_partitioned="partitioned" in told,
        priority=told.get("priority"),
    )


def write_line(line):
    """Give the text by which a line is written."""
    parts = [f"{line.name}={line.value}"]
    if line.expires is not None:
        parts.append(f"Expires={date_text(line.expires)}")
    if line.age is not None:
        parts.append(f"Max-Age={line.age}")
    if line.domain is not None:
        parts.append(f"Domain={line.domain}")
    if line.path is not None:
        parts.append(f"Path={line.path}")
    if line.is_secure:
        parts.append("Secure")
    if line.is_hidden:
        parts.append("HttpOnly")
    if line.same is not None:
        parts.append(f"SameSite={line.same.capitalize()}")
    if line.is_partitioned:
        parts.append("Partitioned")
    if line.priority is not None:
        parts.append(f"Priority={PRIORITIES[line.priority].capitalize()}")
    return "; ".join(parts)


def _parts_of(line):
    return (
        line.name, line.value, line.expires, line.age, line.domain, line.path,
        line.is_secure, line.is_hidden, line.same, line.is_partitioned, line.priority,
    )


def _is_from_0(value, most):
    return is_integer(value) and 0 <= value <= most


def _is_name(value):
    return _is_part(value) and "=" not in value and len(value) <= MOST_OF_LINE


def _is_value(value, name):
    return _is_name(name) and _is_part(value) and 0 < len(name + value) <= MOST_OF_LINE


def _is_part(value):
    if not isinstance(value, str) or ";" in value or not is_trimmed(value):
        return False
    return not _has_control(value)


def _has_control(text):
    for sign in text:
        if sign < " " and sign != "\t":
            return True
    return False
