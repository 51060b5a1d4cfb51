"""Dates as texts: how they are read as ticks, and how ticks are written."""

from crumbjar.words import DIGITS, has_only, is_digits, need_tick

LETTERS = "abcdefghijklmnopqrstuvwxyzABCDEFGHIJKLMNOPQRSTUVWXYZ"
DAY_NAMES = ("Mon", "Tue", "Wed", "Thu", "Fri", "Sat", "Sun")
MONTH_NAMES = ("Jan", "Feb", "Mar", "Apr", "May", "Jun", "Jul", "Aug", "Sep", "Oct", "Nov", "Dec")
MONTH_DAYS = (31, 28, 31, 30, 31, 30, 31, 31, 30, 31, 30, 31)
PARTS = ("time", "day", "month", "year")
DAY_SECONDS = 86400
FIRST_YEAR = 1601
EPOCH_YEAR = 1970
# Day 0 is 1 January 1970, a Thursday.
EPOCH_DAY_NAME = 3


def date_of(text):
    """Give the tick that a date tells, None for every value that is no date."""
    if not isinstance(text, str):
        return None
    found = {}
    for token in _tokens(text):
        part = _part_of(token, found)
        if part is not None:
            found[part] = token
    if len(found) < len(PARTS):
        return None
    return _tick_of(found)


def date_text(tick):
    """Give the text by which a tick is written."""
    need_tick(tick)
    year, month, day, hour, minute, second = parts_of(tick)
    day_name = DAY_NAMES[(tick // DAY_SECONDS + EPOCH_DAY_NAME) % 7]
    return f"{day_name}, {day:02d} {MONTH_NAMES[month - 1]} {year:04d} {hour:02d}:{minute:02d}:{second:02d} GMT"


def parts_of(tick):
    """Give the year, month, day, hour, minute and second of a tick."""
    days, seconds = divmod(tick, DAY_SECONDS)
    year = _year_of(days)
    month, day = _month_and_day(year, days - _days_before(year))
    hour, rest = divmod(seconds, 3600)
    minute, second = divmod(rest, 60)
    return (year, month, day, hour, minute, second)


def _tokens(text):
    tokens = []
    token = ""
    for sign in text:
        if sign in LETTERS or sign in DIGITS or sign == ":":
            token += sign
        elif token != "":
            tokens.append(token)
            token = ""
    if token != "":
        tokens.append(token)
    return tokens


def _part_of(token, found):
    for part in PARTS:
        if part not in found and _fits(token, part):
            return part
    return None


def _fits(token, part):
    if part == "time":
        return _fits_time(token)
    if part == "month":
        return has_only(token, LETTERS) and _month_of(token) is not None
    if part == "day":
        return is_digits(token) and len(token) <= 2
    return is_digits(token) and len(token) in (2, 4)


def _fits_time(token):
    numbers = token.split(":")
    for number in numbers:
        if not is_digits(number) or len(number) > 2:
            return False
    return len(numbers) == 3


def _month_of(token):
    for at, name in enumerate(MONTH_NAMES):
        if token[:3].lower() == name.lower():
            return at + 1
    return None


def _tick_of(found):
    hour, minute, second = [int(number) for number in found["time"].split(":")]
    day = int(found["day"])
    month = _month_of(found["month"])
    year = _year_told(found["year"])
    if hour > 23 or minute > 59 or second > 59 or year < FIRST_YEAR:
        return None
    if not 1 <= day <= _days_of_month(year, month):
        return None
    if year < EPOCH_YEAR:
        return 0
    days = _days_before(year) + _days_before_month(year, month) + day - 1
    return days * DAY_SECONDS + hour * 3600 + minute * 60 + second


def _year_told(digits):
    year = int(digits)
    # A year of four digits is the one that it tells: 0099 is not 1999.
    if len(digits) > 2:
        return year
    return 2000 + year if year <= 69 else 1900 + year


def _is_leap(year):
    return year % 4 == 0 and (year % 100 != 0 or year % 400 == 0)


def _days_of_month(year, month):
    if month == 2 and _is_leap(year):
        return 29
    return MONTH_DAYS[month - 1]


def _days_before_month(year, month):
    return sum([_days_of_month(year, earlier) for earlier in range(1, month)])


def _days_before(year):
    """Give how many days there are from the beginning of 1970 to that of a year."""
    return _days_to(year) - _days_to(EPOCH_YEAR)


def _days_to(year):
    past = year - 1
    return past * 365 + past // 4 - past // 100 + past // 400


def _year_of(days):
    # With 366 days for each year the first guess is never too late.
    year = EPOCH_YEAR + days // 366
    while _days_before(year + 1) <= days:
        year += 1
    return year


def _month_and_day(year, days):
    month = 1
    while _days_before_month(year, month + 1) <= days:
        month += 1
    return (month, days - _days_before_month(year, month) + 1)
