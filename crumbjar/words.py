"""Integers, ticks, and runs of signs: what every part of the package asks for."""

from crumbjar.errors import BadTick

LAST_TICK = 253402300799
DIGITS = "0123456789"


def is_integer(value):
    """Tell whether a value is an integer; True and False are none."""
    return isinstance(value, int) and not isinstance(value, bool)


def is_tick(value):
    """Tell whether a value is a tick."""
    return is_integer(value) and 0 <= value <= LAST_TICK


def need_tick(value):
    """Raise BadTick unless the value is a tick."""
    if not is_tick(value):
        raise BadTick(value)


def has_only(text, signs):
    """Tell whether a text has one sign or more, and each one is among these signs."""
    # What is stripped away at both ends is all of a text that has no other sign.
    return text != "" and text.strip(signs) == ""


def is_digits(text):
    """Tell whether a text has digits alone, at least one."""
    return has_only(text, DIGITS)
