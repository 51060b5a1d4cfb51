"""Paths, origins and addresses, their texts, and the paths that fit."""

from crumbjar.errors import BadAddress, BadHost, BadOrigin, BadPath
from crumbjar.hosts import host_of, is_host

SCHEMES = ("http", "https")
MARK = "://"
MOST_OF_PATH = 200
BARRED = ";?#"
PERCENT = 37


def is_path(value):
    """Tell whether a value is a path."""
    if not isinstance(value, str) or len(value) > MOST_OF_PATH or not value.startswith("/"):
        return False
    for sign in value:
        if not _is_path_sign(sign):
            return False
    return True


def is_origin(value):
    """Tell whether a value is an origin."""
    if not isinstance(value, tuple) or len(value) != 2:
        return False
    return _is_scheme(value[0]) and is_host(value[1])


def is_address(value):
    """Tell whether a value is an address."""
    if not isinstance(value, tuple) or len(value) != 3:
        return False
    return is_origin(value[:2]) and is_path(value[2])


def is_safe(origin):
    """Tell whether an origin is safe."""
    if not is_origin(origin):
        raise BadOrigin(origin)
    scheme, host = origin
    return scheme == "https" or host == "localhost" or host.endswith(".localhost")


def origin_of(address):
    """Give the origin of an address."""
    _need_address(address)
    return address[:2]


def address_text(address):
    """Give the text of an address."""
    _need_address(address)
    scheme, host, path = address
    return scheme + MARK + host + path


def address_of(text):
    """Give the address that a text tells; what begins with a ? or # is left out."""
    if not isinstance(text, str):
        raise BadAddress(0)
    scheme = _scheme_of(text)
    start = len(scheme + MARK)
    end = _host_end(text, start)
    try:
        host = host_of(text[start:end])
    except BadHost as wrong:
        raise BadAddress(start + wrong.place) from None
    return (scheme, host, _path_at(text, end) or "/")


def default_path(path):
    """Give the default path of a path."""
    _need_path(path)
    return path.rpartition("/")[0] or "/"


def path_fits(path, own):
    """Tell whether a path fits an own path."""
    _need_path(path)
    _need_path(own)
    if path == own:
        return True
    return path.startswith(own) and (own.endswith("/") or path[len(own)] == "/")


def _need_address(address):
    if not is_address(address):
        raise BadAddress(None)


def _need_path(path):
    if not is_path(path):
        raise BadPath(path)


def _is_scheme(value):
    return isinstance(value, str) and value in SCHEMES


def _is_path_sign(sign):
    return "!" <= sign <= "~" and sign not in BARRED and ord(sign) != PERCENT


def _scheme_of(text):
    for scheme in SCHEMES:
        if text.lower().startswith(scheme + MARK):
            return scheme
    for many in range(1, len(text) + 1):
        if not _begins_scheme(text[:many].lower()):
            raise BadAddress(many)
    raise BadAddress(len(text) + 1)


def _begins_scheme(text):
    for scheme in SCHEMES:
        if (scheme + MARK).startswith(text):
            return True
    return False


def _host_end(text, start):
    for at in range(start, len(text)):
        if text[at] in "/?#":
            return at
    return len(text)


def _path_at(text, start):
    for at in range(start, len(text)):
        if text[at] in "?#":
            return text[start:at]
        if not _is_path_sign(text[at]) or at == start + MOST_OF_PATH:
            raise BadAddress(at + 1)
    return text[start:]
