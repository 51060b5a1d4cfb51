"""[15] and [16]: dates that are read and dates that are written."""

import calendar
import datetime
import itertools
import unittest

from crumbjar.dates import date_of, date_text
from crumbjar.errors import BadTick
from crumbjar.words import LAST_TICK
from kinds import OTHERS

EPOCH = datetime.datetime(1970, 1, 1)
MONTHS = ("January", "February", "March", "April", "May", "June", "July", "August", "September", "October",
          "November", "December")
NOVEMBER = 784111777  # 1994-11-06 08:49:37


def tick_at(*parts):
    """The tick of a year, month, day, hour, minute, second."""
    return int((datetime.datetime(*parts) - EPOCH).total_seconds())


class DateOfTest(unittest.TestCase):
    def check(self, pairs):
        for text, tick in pairs:
            with self.subTest(text):
                self.assertEqual(date_of(text), tick)

    def test_usual_forms(self):
        self.check((
            ("Sun, 06 Nov 1994 08:49:37 GMT", NOVEMBER),
            ("Sunday, 06-Nov-94 08:49:37 GMT", NOVEMBER),
            ("Sun Nov  6 08:49:37 1994", NOVEMBER),
            ("6 8:49:37 94 NOV", NOVEMBER),
            ("6 nov 94 08:49:37", NOVEMBER),
            ("08:49:37 1994 november 6", NOVEMBER),
            ("1994/6/Nov/8:49:37", NOVEMBER),
            ("Mon, 06 Nov 1994 08:49:37 PST", NOVEMBER),
            ("Thu, 01 Jan 1970 00:00:00 GMT", 0),
            ("Fri, 31 Dec 9999 23:59:59 GMT", LAST_TICK),
        ))
        self.assertEqual(date_of(text="1 Jan 1970 0:0:1"), 1)
        self.assertIs(type(date_of("1 Jan 1970 0:0:1")), int)

    def test_no_string(self):
        for value in OTHERS:
            self.assertIsNone(date_of(value))

    def test_each_order_of_the_parts(self):
        for parts in itertools.permutations(("06", "Nov", "1994", "8:49:37")):
            self.assertEqual(date_of(" ".join(parts)), NOVEMBER)

    def test_two_digits_are_the_day_first(self):
        self.check((
            ("6 Nov 94 8:49:37", NOVEMBER),
            ("06 94 Nov 8:49:37", NOVEMBER),
            ("94 06 Nov 8:49:37", None),
            ("94 6 Nov 8:49:37", None),
            ("11 12 Nov 8:49:37", tick_at(2012, 11, 11, 8, 49, 37)),
            ("1994 12 11 Nov 8:49:37", tick_at(1994, 11, 12, 8, 49, 37)),
            ("1994 6 Nov 8:49:37 95", NOVEMBER),
            ("6 Nov 94 8:49:37 1995", NOVEMBER),
        ))

    def test_a_part_that_lacks(self):
        parts = ("06", "Nov", "1994", "8:49:37")
        for left in parts:
            self.assertIsNone(date_of(" ".join(part for part in parts if part != left)))
        self.check((("", None), (" ", None), ("06 Nov 8:49:37", None), ("6 Nov 9 8:49:37", None)))

    def test_tokens_that_come_again_are_skipped(self):
        self.check((
            ("6 Nov 1994 8:49:37 9:00:00", NOVEMBER),
            ("6 Nov 1994 Dec 8:49:37", NOVEMBER),
            ("6 Nov 1994 1995 8:49:37", NOVEMBER),
            ("6 Nov 1994 7 8:49:37", NOVEMBER),
            ("6 Nov 1994 99 8:49:37 99:99:99", NOVEMBER),
            ("6 8:49:37 Nov 94 94 Nov 8:49:37 6", NOVEMBER),
        ))

    def test_tokens_that_fit_nothing_are_skipped(self):
        self.check((
            ("123 6 Nov 1994 8:49:37", NOVEMBER),
            ("6 Nov 12345 1994 8:49:37", NOVEMBER),
            ("6 No Nov 1994 8:49:37", NOVEMBER),
            ("6 Nov 1994 8:49 8:49:37", NOVEMBER),
            ("6 Nov 1994 8:49:37:00 8:49:37", NOVEMBER),
            ("6 Nov 1994 009:00:00 8:49:37", NOVEMBER),
            ("6 Nov 1994 9:000:00 8:49:37", NOVEMBER),
            ("6 Nov 1994 9:00:000 8:49:37", NOVEMBER),
            ("6 Nov 1994 8::37 8:49:37", NOVEMBER),
            ("6 Nov 1994 :8:49:37 8:49:37", NOVEMBER),
            ("6th 6 Nov 1994 8:49:37", NOVEMBER),
            ("6 Nov1 Nov 1994 8:49:37", NOVEMBER),
            ("6 Nov 1994 8:49:37Z 8:49:37", NOVEMBER),
            ("6 Nov 1994 8:4a:37 8:49:37", NOVEMBER),
            ("6 Nov 19x4 1994 8:49:37", NOVEMBER),
            (":: : 6: Nov: 6 Nov 1994 8:49:37", NOVEMBER),
        ))

    def test_tokens_that_fit_nothing_lack(self):
        for text in ("6 Nov 1994 8:49:37GMT", "6th Nov 1994 8:49:37", "6 Nov. 199 8:49:37", "6 Nov 19940 8:49:37",
                     "6 No 1994 8:49:37", "6 Nov 1994 8:49", "6 Nov 1994 8:49:37:1", "6 Nov 1994 8:49:371",
                     "6 Nov 1994 008:49:37", "6 Nov 1994 8:49:037", "6 Nov 1994 8:049:37",
                     "6Nov1994 8:49:37", "006 Nov 1994 8:49:37", "6 Nov7 1994 8:49:37", "6 Abc 1994 8:49:37",
                     "6 Nov 1994 8 :49:37", "6 11 1994 8:49:37", "-6:Nov 1994 8:49:37", "6 xNov 1994 8:49:37"):
            with self.subTest(text):
                self.assertIsNone(date_of(text))

    def test_signs_between_tokens(self):
        for sign in " !\"#$&'()*+,-./;<=>?@[\\]^_`{|}~\t\n":
            self.assertEqual(date_of(sign.join(("6", "Nov", "1994", "8:49:37"))), NOVEMBER)
            self.assertEqual(date_of(sign + "6 Nov 1994 8:49:37" + sign), NOVEMBER)

    def test_months(self):
        for number, name in enumerate(MONTHS, start=1):
            tick = tick_at(1994, number, 6, 8, 49, 37)
            for written in (name, name[:3], name[:3] + "xyz", name.upper(), name.lower(), name[:3].swapcase()):
                self.assertEqual(date_of(f"6 {written} 1994 8:49:37"), tick)
            self.assertIsNone(date_of(f"6 {name[:2]} 1994 8:49:37"))

    def test_times(self):
        self.check((
            ("6 Nov 1994 0:0:0", tick_at(1994, 11, 6)),
            ("6 Nov 1994 00:00:00", tick_at(1994, 11, 6)),
            ("6 Nov 1994 23:59:59", tick_at(1994, 11, 6, 23, 59, 59)),
            ("6 Nov 1994 24:0:0", None),
            ("6 Nov 1994 99:0:0", None),
            ("6 Nov 1994 0:60:0", None),
            ("6 Nov 1994 0:0:60", None),
            ("6 Nov 1994 1:2:3", tick_at(1994, 11, 6, 1, 2, 3)),
            # The first token that fits is the part, even if it is wrong.
            ("6 Nov 1994 24:0:0 8:49:37", None),
            ("0 6 Nov 1994 8:49:37", None),
        ))

    def test_days(self):
        for year in (1900, 1970, 1994, 1999, 2000, 2004, 2100, 2400, 9996, 9999):
            for month, name in enumerate(MONTHS, start=1):
                last = calendar.monthrange(year, month)[1]
                for day in (0, 1, 9, 28, 29, 30, 31, 32, 99):
                    tick = None
                    if 1 <= day <= last:
                        tick = max(0, tick_at(year, month, day, 1, 2, 3))
                    self.assertEqual(date_of(f"{day} {name} {year} 1:2:3"), tick)

    def test_29_february(self):
        for year, tick in ((1600, None), (1604, 0), (1700, None), (1900, None), (1904, 0), (1968, 0), (1969, None),
                           (1996, tick_at(1996, 2, 29)), (2000, tick_at(2000, 2, 29)), (2001, None), (2100, None),
                           (2200, None), (2400, tick_at(2400, 2, 29))):
            self.assertEqual(date_of(f"29 Feb {year} 0:0:0"), tick, year)

    def test_years_of_two_digits(self):
        for number in range(100):
            year = 2000 + number if number < 70 else 1900 + number
            self.assertEqual(date_of(f"6 Nov {number:02d} 8:49:37"), tick_at(year, 11, 6, 8, 49, 37))
        self.assertEqual(date_of("31 Dec 69 23:59:59"), tick_at(2069, 12, 31, 23, 59, 59))
        self.assertEqual(date_of("1 Jan 70 0:0:0"), 0)

    def test_years_of_four_digits_below_1601(self):
        for year in range(1601):
            for text in (f"17 Mar {year:04d} 21:31:01", f"{year:04d} 17 Mar 21:31:01", f"17 Mar {year:04d} 21:31:01 94",
                         f"16:28:00/26/decem/{year:04d}/6816"):
                self.assertIsNone(date_of(text), text)
        self.assertEqual(date_of("17 Mar 1601 21:31:01"), 0)

    def test_years_of_four_digits(self):
        self.check((
            ("31 Dec 1600 23:59:59", None),
            ("1 Jan 1601 0:0:0", 0),
            ("1 Jan 1000 0:0:0", None),
            ("1 Jan 0100 0:0:0", None),
            ("31 Dec 1969 23:59:59", 0),
            ("31 Apr 1969 23:59:59", None),
            ("1 Jan 1970 0:0:0", 0),
            ("1 Jan 1970 0:0:1", 1),
            ("1 Jan 9999 0:0:0", tick_at(9999, 1, 1)),
            ("31 Dec 9999 23:59:59", LAST_TICK),
        ))


class DateTextTest(unittest.TestCase):
    def test_texts(self):
        for tick, text in (
            (0, "Thu, 01 Jan 1970 00:00:00 GMT"),
            (1, "Thu, 01 Jan 1970 00:00:01 GMT"),
            (86399, "Thu, 01 Jan 1970 23:59:59 GMT"),
            (86400, "Fri, 02 Jan 1970 00:00:00 GMT"),
            (NOVEMBER, "Sun, 06 Nov 1994 08:49:37 GMT"),
            (951782400, "Tue, 29 Feb 2000 00:00:00 GMT"),
            (LAST_TICK, "Fri, 31 Dec 9999 23:59:59 GMT"),
        ):
            self.assertEqual(date_text(tick), text)
        self.assertEqual(date_text(tick=0), "Thu, 01 Jan 1970 00:00:00 GMT")

    def test_each_day_of_some_years(self):
        days = [(datetime.datetime(year, 1, 1) - EPOCH).days + day
                for year in (1970, 1972, 1999, 2000, 2023, 2024, 2099, 2100, 2400, 5000, 9998) for day in range(367)]
        for day in days:
            tick = day * 86400 + (day * 7919) % 86400
            when = EPOCH + datetime.timedelta(seconds=tick)
            names = calendar.day_abbr[when.weekday()], calendar.month_abbr[when.month]
            text = f"{names[0]}, {when.day:02d} {names[1]} {when.year:04d} {when:%H:%M:%S} GMT"
            self.assertEqual(date_text(tick), text)

    def test_read_as_the_same_tick(self):
        ticks = list(range(0, LAST_TICK, LAST_TICK // 4999)) + [LAST_TICK - 1, LAST_TICK, 1, 59, 60, 3599, 3600, 86399]
        for tick in ticks:
            self.assertEqual(date_of(date_text(tick)), tick)

    def test_the_first_and_the_last_second_of_each_year(self):
        for year in range(1970, 10000):
            first = tick_at(year, 1, 1)
            self.assertEqual(date_text(first)[5:], f"01 Jan {year} 00:00:00 GMT")
            self.assertEqual(date_of(date_text(first)), first)
            self.assertEqual(date_text(first + calendar.isleap(year) * 86400 + 31535999)[5:],
                             f"31 Dec {year} 23:59:59 GMT")

    def test_no_tick(self):
        for value in OTHERS + (LAST_TICK + 1, -1, 1.5, "0"):
            if type(value) is not int or not 0 <= value <= LAST_TICK:
                with self.assertRaises(BadTick) as caught:
                    date_text(value)
                self.assertIs(caught.exception.given, value)


if __name__ == "__main__":
    unittest.main()
