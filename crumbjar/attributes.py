"""The attributes of lines: their names, and what their values tell."""

from crumbjar.addresses import is_path
from crumbjar.dates import date_of
from crumbjar.hosts import is_host
from crumbjar.words import is_digits

FLAGS = ("secure", "httponly", "partitioned")
SAMES = ("strict", "lax", "none")
PRIORITIES = ("low", "medium", "high")
MOST_AGE = 34560000
# The word of the defect of an attribute whose value is none.
DEFECTS = {
    "expires": "date",
    "max-age": "age",
    "domain": "domain",
    "path": "path",
    "samesite": "same",
    "priority": "priority",
}


def told_value(attribute, value):
    """Give what the value of an attribute that is no flag tells, None if it is none."""
    if attribute == "expires":
        return date_of(value)
    if attribute == "max-age":
        return _age_of(value)
    if attribute == "domain":
        return _domain_of(value)
    if attribute == "path":
        return value if is_path(value) else None
    if attribute == "samesite":
        return value.lower() if value.lower() in SAMES else None
    return _priority_of(value)


def _age_of(value):
    if not is_digits(value.removeprefix("-")):
        return None
    return min(max(int(value), 0), MOST_AGE)


def _domain_of(value):
    host = value.removeprefix(".").lower()
    return host if is_host(host) else None


def _priority_of(value):
    word = value.lower()
    return PRIORITIES.index(word) if word in PRIORITIES else None
