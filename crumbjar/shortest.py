"""The shortest texts that are read as a date or as a line."""

from crumbjar.attributes import PRIORITIES
from crumbjar.dates import MONTH_NAMES, date_of, parts_of
from crumbjar.words import need_tick

# The years that two digits can tell.
FIRST_SHORT_YEAR = 1970
LAST_SHORT_YEAR = 2069


def shortest_date(tick):
    """Give the least of the shortest texts that are read as a tick."""
    need_tick(tick)
    year, month, day, hour, minute, second = parts_of(tick)
    texts = []
    # The month stands last in the least text, as letters come behind digits.
    for order in _orders(str(day), _short_year(year), f"{hour}:{minute}:{second}"):
        texts.append(" ".join([*order, MONTH_NAMES[month - 1].upper()]))
    # A year of two digits in front of the day would be read as the day.
    return min([text for text in texts if date_of(text) == tick])


def shortest_line(line):
    """Give the shortest text that is read as a line."""
    return ";".join([_first_piece(line)] + sorted(_attributes(line)))


def _orders(one, two, three):
    return (
        (one, two, three), (one, three, two), (two, one, three),
        (two, three, one), (three, one, two), (three, two, one),
    )


def _short_year(year):
    if FIRST_SHORT_YEAR <= year <= LAST_SHORT_YEAR:
        return str(year)[-2:]
    return str(year)


def _first_piece(line):
    if line.name == "" and "=" not in line.value:
        return line.value
    return f"{line.name}={line.value}"


def _attributes(line):
    texts = []
    if line.domain is not None:
        texts.append(f"DOMAIN={line.domain.upper()}")
    if line.expires is not None:
        texts.append(f"EXPIRES={shortest_date(line.expires)}")
    if line.is_hidden:
        texts.append("HTTPONLY")
    if line.age is not None:
        texts.append(f"MAX-AGE={line.age}")
    if line.is_partitioned:
        texts.append("PARTITIONED")
    if line.path is not None:
        texts.append(f"PATH={line.path}")
    if line.priority is not None:
        texts.append(f"PRIORITY={PRIORITIES[line.priority].upper()}")
    if line.same is not None:
        texts.append(f"SAMESITE={line.same.upper()}")
    if line.is_secure:
        texts.append("SECURE")
    return texts
