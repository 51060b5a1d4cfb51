"""Values of many kinds, for the functions that take any value."""

OTHERS = (
    None, True, False, 0, 1, -1, 7, 10 ** 30, 1.0, "", "x", "com", b"", b"a.com", (), ("http",), ("http", 5),
    ("http", "a.com"), ("http", "a.com", "/"), ("http", "a.com", "/", "/"), (1, 2), (["http"], "a.com"),
    (None, None, None), [], ["http", "a.com"], {}, {"a": 1}, set(), object(), int, len, ("com", 5),
)


def not_texts():
    """All of these values that are no strings."""
    return [value for value in OTHERS if not isinstance(value, str)]


def not_tuples():
    """All of these values that are no tuples."""
    return [value for value in OTHERS if not isinstance(value, tuple)]
