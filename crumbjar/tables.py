"""Tables: what is answered at each address, and the texts that an answer gives."""

from crumbjar.addresses import is_address
from crumbjar.errors import BadTable
from crumbjar.pieces import pieces_of

MOST_PAIRS = 30
MOST_LINES = 5
MOST_PARTS = 4
MOST_OF_TEXT = 400
NUMBER_SIGN = "*"
ALWAYS = "always"
NEW = "new"
FRAME = "frame"
PICTURE = "picture"
WRITE = "write"
# What an address that is not in a table answers.
NO_ANSWER = ((), None, ())


def is_answer(value):
    """Tell whether a value is an answer."""
    if not isinstance(value, tuple) or len(value) != 3:
        return False
    lines, goal, parts = value
    if not _are_all(lines, MOST_LINES, _is_line) or not _are_all(parts, MOST_PARTS, _is_part):
        return False
    return goal is None or is_address(goal)


def check_table(value):
    """Raise BadTable unless the value is a table."""
    if not isinstance(value, tuple):
        raise BadTable(None)
    known = {}
    for index, item in enumerate(value):
        if index == MOST_PAIRS or not _is_pair(item) or item[0] in known:
            raise BadTable(index)
        known[item[0]] = True


def answer_of(table, address):
    """Give the answer of an address in a table."""
    for known, answer in table:
        if known == address:
            return answer
    return NO_ANSWER


def texts_given(answer, number, names):
    """Give the tuple of the texts that are received in a row, if crumbs with these names are sent."""
    texts = []
    for when, text in answer[0]:
        told = with_number(text, number)
        if when == ALWAYS or pieces_of(told)[0][0] not in names:
            texts.append(told)
    return tuple(texts)


def with_number(text, number):
    """Give a text in which the number of a row stands for each sign *."""
    return text.replace(NUMBER_SIGN, str(number))


def _are_all(value, most, is_right):
    if not isinstance(value, tuple) or len(value) > most:
        return False
    return all([is_right(item) for item in value])


def _is_pair(value):
    return isinstance(value, tuple) and len(value) == 2 and is_address(value[0]) and is_answer(value[1])


def _is_line(value):
    if not isinstance(value, tuple) or len(value) != 2:
        return False
    when, text = value
    return isinstance(when, str) and when in (ALWAYS, NEW) and _is_text(text)


def _is_part(value):
    if not isinstance(value, tuple) or len(value) != 2 or not isinstance(value[0], str):
        return False
    kind, worth = value
    if kind == WRITE:
        return _is_text(worth)
    return kind in (FRAME, PICTURE) and is_address(worth)


def _is_text(value):
    return isinstance(value, str) and len(value) <= MOST_OF_TEXT
