"""Lines as pieces: names, values and defects."""

from crumbjar.attributes import DEFECTS, FLAGS, told_value
from crumbjar.errors import BadLine

MOST_OF_VALUE = 1024
BLANKS = " \t"


def pieces_of(text):
    """Give the tuple of the pairs (name, value) of the pieces of a line."""
    if not isinstance(text, str):
        raise BadLine("text")
    first, *others = text.split(";")
    return tuple([_first_piece(first)] + [_later_piece(part) for part in others])


def defects_of(text):
    """Give the tuple of the pairs (index, word) of the pieces that have a defect."""
    return judged(pieces_of(text))[0]


def judged(pieces):
    """Give the defects of pieces, and a dict of what they tell, by attributes."""
    defects = []
    told = {}
    for index, (name, value) in enumerate(pieces[1:], start=1):
        attribute = name.lower()
        word = _defect(attribute, value, told)
        if word is not None:
            defects.append((index, word))
        if word in (None, "value", "again"):
            told[attribute] = True if attribute in FLAGS else told_value(attribute, value)
    return (tuple(defects), told)


def is_trimmed(text):
    """Tell whether no blank and no tab stands at an end of a text."""
    return text == text.strip(BLANKS)


def _first_piece(part):
    name, sign, value = part.partition("=")
    if sign == "":
        return ("", part.strip(BLANKS))
    return (name.strip(BLANKS), value.strip(BLANKS))


def _later_piece(part):
    name, sign, value = part.partition("=")
    if sign == "":
        return (name.strip(BLANKS), None)
    return (name.strip(BLANKS), value.strip(BLANKS))


def _defect(attribute, value, told):
    if attribute == "" and value is None:
        return "nothing"
    if attribute not in FLAGS and attribute not in DEFECTS:
        return "unknown"
    if value is not None and len(value) > MOST_OF_VALUE:
        return "long"
    if attribute in FLAGS:
        if value is not None:
            return "value"
    elif value is None or told_value(attribute, value) is None:
        return DEFECTS[attribute]
    return "again" if attribute in told else None
