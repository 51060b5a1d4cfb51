"""Shelves and wishes: the rows of crumbs that stay for a wish, and how many lines it takes at least."""

from crumbjar.addresses import MOST_OF_PATH
from crumbjar.crumbs import HOST_MARK
from crumbjar.errors import BadShelf, BadWish
from crumbjar.lines import Line, read_line
from crumbjar.words import is_integer

MOST_ON_SHELF = 1000
MOST_OF_WISH = 60


class Field:
    """The pairs (i, j) with one name of a shelf and a wish, their weights, and which may follow which."""

    def __init__(self, shelf, wish):
        top, shelved = shelf
        places = {name: at for at, (name, _) in enumerate(wish)}
        self.top = top
        self.depths = [depth for depth, _, _ in shelved]
        self.size = len(shelved) + len(wish)
        # For each place in the wish, how many of the names in front of it are low.
        self.lows = [0]
        for name, _ in wish:
            self.lows.append(self.lows[-1] + int(name.lower().startswith(HOST_MARK)))
        # The pairs rise, as each row of the shelf has one name.
        self.weights = {}
        for at, (_, name, value) in enumerate(shelved):
            if name in places:
                place = places[name]
                self.weights[(at, place)] = 2 if value == wish[place][1] else 1

    def may_begin(self, pair):
        """Tell whether one of the pairs may be the first one of a row."""
        at, place = pair
        return place == 0 or self.depths[at] < self.top and self.lows[place] == 0

    def may_follow(self, pair, later):
        """Tell whether another one of the pairs may stand behind a pair in a row."""
        if later[0] <= pair[0] or later[1] <= pair[1]:
            return False
        if later[1] == pair[1] + 1:
            return True
        return self.depths[pair[0]] > self.depths[later[0]] and self.lows[pair[1] + 1] == self.lows[later[1]]


def weight(shelf, wish, row):
    """Give the weight of a row for a shelf and a wish, None for what is no row."""
    return _weight_in(_field_of(shelf, wish), row)


def best_row(shelf, wish):
    """Give the heaviest row, of several the least one."""
    field = _field_of(shelf, wish)
    return _best_row_in(field, _tails_of(field))


def fewest(shelf, wish):
    """Give how many lines the heaviest row has."""
    field = _field_of(shelf, wish)
    return field.size - _weight_in(field, _best_row_in(field, _tails_of(field)))


def certificate(shelf, wish):
    """Give the heaviest row, and the dict of numbers that show that no row is heavier."""
    field = _field_of(shelf, wish)
    tails = _tails_of(field)
    return (_best_row_in(field, tails), {pair: tails[pair][0] for pair in tails})


def check_certificate(shelf, wish, many, shown):
    """Tell whether a value is a certificate of so many lines."""
    field = _field_of(shelf, wish)
    if not isinstance(shown, tuple) or len(shown) != 2:
        return False
    row, table = shown
    total = _weight_in(field, row)
    if total is None or not is_integer(many) or many != field.size - total or not isinstance(table, dict):
        return False
    bounds = _known_bounds(field, table)
    return len(bounds) == len(field.weights) and _are_bounds(field, bounds, total)


def easiest(shelf, pairs):
    """Give the wish of these pairs that takes the fewest lines."""
    _need_shelf(shelf)
    if not isinstance(pairs, dict) or len(pairs) > MOST_OF_WISH:
        raise BadWish(None)
    if not all([_is_wished(pair) for pair in pairs.items()]):
        raise BadWish(None)
    places = _places_on(shelf, pairs)
    # Names that are not on the shelf come last.
    ordered = sorted([(places.get(name, len(shelf[1])), name) for name in pairs])
    return tuple([(name, pairs[name]) for _, name in ordered])


def need_wish(wish):
    """Raise BadWish unless the value is a wish."""
    if not isinstance(wish, tuple) or len(wish) > MOST_OF_WISH:
        raise BadWish(None)
    names = {}
    for index, pair in enumerate(wish):
        if not _is_wished(pair) or pair[0] in names:
            raise BadWish(index)
        names[pair[0]] = True


def _need_shelf(shelf):
    if not isinstance(shelf, tuple) or len(shelf) != 2:
        raise BadShelf(None)
    top, shelved = shelf
    if not is_integer(top) or not 1 <= top <= MOST_OF_PATH:
        raise BadShelf(None)
    if not isinstance(shelved, tuple) or len(shelved) > MOST_ON_SHELF:
        raise BadShelf(None)
    least = top
    for index, row in enumerate(shelved):
        if not _is_shelved(row) or row[0] > least:
            raise BadShelf(index)
        least = row[0]


def _is_shelved(value):
    if not isinstance(value, tuple) or len(value) != 3:
        return False
    depth, name, text = value
    return is_integer(depth) and depth >= 1 and isinstance(name, str) and isinstance(text, str)


def _is_wished(value):
    if not isinstance(value, tuple) or len(value) != 2:
        return False
    name, text = value
    if not isinstance(name, str) or not isinstance(text, str) or name == "":
        return False
    line = read_line(f"{name}={text}")
    return isinstance(line, Line) and line.name == name and line.value == text


def _field_of(shelf, wish):
    _need_shelf(shelf)
    need_wish(wish)
    return Field(shelf, wish)


def _weight_in(field, row):
    if not isinstance(row, tuple) or not all([_is_pair_of(field, pair) for pair in row]):
        return None
    for at, pair in enumerate(row):
        if not (field.may_follow(row[at - 1], pair) if at > 0 else field.may_begin(pair)):
            return None
    return sum([field.weights[pair] for pair in row])


def _is_pair_of(field, value):
    if not isinstance(value, tuple) or len(value) != 2:
        return False
    return is_integer(value[0]) and is_integer(value[1]) and value in field.weights


def _tails_of(field):
    """Give for each pair the weight of the heaviest end of a row that begins with it, and the pair behind it."""
    tails = {}
    pairs = list(field.weights)
    for at in range(len(pairs) - 1, -1, -1):
        pair = pairs[at]
        behind = _heaviest([later for later in pairs[at + 1:] if field.may_follow(pair, later)], tails)
        total = field.weights[pair] + (0 if behind is None else tails[behind][0])
        tails[pair] = (total, behind)
    return tails


def _heaviest(pairs, tails):
    # The first one of several is the least, as pairs rise.
    return max(pairs, key=lambda pair: tails[pair][0], default=None)


def _best_row_in(field, tails):
    row = []
    pair = _heaviest([first for first in field.weights if field.may_begin(first)], tails)
    while pair is not None:
        row.append(pair)
        pair = tails[pair][1]
    return tuple(row)


def _known_bounds(field, table):
    """Give the integers of a table for the pairs of a field; a key with True in it is no pair."""
    bounds = {}
    for key, number in table.items():
        if _is_pair_of(field, key) and is_integer(number):
            bounds[key] = number
    return bounds


def _are_bounds(field, bounds, total):
    pairs = list(field.weights)
    for at, pair in enumerate(pairs):
        followers = [bounds[later] for later in pairs[at + 1:] if field.may_follow(pair, later)]
        # The 0 asks for the weight alone, whatever follows.
        if bounds[pair] < field.weights[pair] + max([0, *followers]):
            return False
        if field.may_begin(pair) and bounds[pair] > total:
            return False
    return True


def _places_on(shelf, pairs):
    """Give for each name of pairs that is on a shelf the first row with its value, or else with it alone."""
    by_name = {}
    by_pair = {}
    for at, (_, name, value) in enumerate(shelf[1]):
        if name in pairs:
            by_name.setdefault(name, at)
            if value == pairs[name]:
                by_pair.setdefault(name, at)
    return {**by_name, **by_pair}
