"""Devices, stamps, keys and writes: what ledgers are made of."""

from crumbjar.crumbs import DEFAULT_PRIORITY, crumb_with
from crumbjar.errors import BadCrumb
from crumbjar.words import has_only, is_integer, is_tick

MOST_OF_DEVICE = 8
DEVICE_SIGNS = "abcdefghijklmnopqrstuvwxyz"
KEY_SIZE = 5
CONTENT_SIZE = 6


def is_device(value):
    """Tell whether a value is a device."""
    return isinstance(value, str) and len(value) <= MOST_OF_DEVICE and has_only(value, DEVICE_SIGNS)


def is_stamp(value):
    """Tell whether a value is a stamp."""
    if not isinstance(value, tuple) or len(value) != 3:
        return False
    tick, device, count = value
    return is_tick(tick) and is_device(device) and is_integer(count) and count >= 0


def is_key(value):
    """Tell whether a value is the key of some crumb."""
    if not isinstance(value, tuple) or len(value) != KEY_SIZE or not isinstance(value[0], tuple):
        return False
    # If any crumb has this key, so has one with these contents: no key bars
    # what is secure and "none", and some keys ask for it.
    worth = "v" if value[4] == "" else ""
    return _can_exist(value, (worth, True, False, "none", DEFAULT_PRIORITY, None), 0, 0)


def is_write(key, value):
    """Tell whether a value is a write of a key."""
    if not is_key(key) or not isinstance(value, tuple) or len(value) != 3:
        return False
    stamp, birth, content = value
    if not is_stamp(stamp) or not is_stamp(birth) or birth > stamp:
        return False
    if content is None:
        return birth == stamp
    if not isinstance(content, tuple) or len(content) != CONTENT_SIZE or content[-1] is None:
        return False
    return _can_exist(key, content, birth[0], stamp[0])


def rank_of_write(write):
    """Give what decides which one of two writes of a key is greater."""
    stamp, birth, content = write
    return (stamp, content is not None, birth, content or ())


def _can_exist(key, content, born, seen):
    try:
        crumb_with(key, content, (born, 0), seen)
    except BadCrumb:
        return False
    return True
