"""[17] and [18]: the shortest dates and the shortest lines."""

import itertools
import random
import unittest

from crumbjar.dates import date_of, date_text, parts_of
from crumbjar.errors import BadTick
from crumbjar.lines import Line, read_line, write_line
from crumbjar.pieces import defects_of
from crumbjar.shortest import shortest_date, shortest_line
from crumbjar.words import LAST_TICK
from kinds import OTHERS

NAMES = ("JAN", "FEB", "MAR", "APR", "MAY", "JUN", "JUL", "AUG", "SEP", "OCT", "NOV", "DEC")
DAY = 86400


def tick_of(text):
    """The tick of a text that surely is a date."""
    tick = date_of(text)
    assert tick is not None, text
    return tick


def spellings(tick):
    """Texts of many forms that are read as a tick."""
    year, month, day, hour, minute, second = parts_of(tick)
    times = [":".join(parts) for parts in itertools.product(*[{str(part), f"{part:02d}"}
                                                              for part in (hour, minute, second)])]
    choices = ({str(day), f"{day:02d}"}, {f"{year % 100:02d}", str(year)}, times, (NAMES[month - 1], NAMES[month - 1] + "A"))
    for parts in itertools.product(*choices):
        for order in itertools.permutations(parts):
            if date_of(" ".join(order)) == tick:
                yield " ".join(order)


class DateTest(unittest.TestCase):
    def test_texts(self):
        for text, shortest in (
            ("Sun, 06 Nov 1994 08:49:37", "6 8:49:37 94 NOV"),
            ("1 Jan 1970 0:0:0", "0:0:0 1 70 JAN"),
            ("1 Jan 1970 0:0:1", "0:0:1 1 70 JAN"),
            ("31 Dec 9999 23:59:59", "23:59:59 31 9999 DEC"),
            ("10 Feb 2005 0:0:0", "0:0:0 10 05 FEB"),
            ("10 Feb 2005 20:0:0", "10 05 20:0:0 FEB"),
            ("10 Feb 2030 20:0:0", "10 20:0:0 30 FEB"),
            ("10 Feb 2010 10:0:0", "10 10 10:0:0 FEB"),
            ("1 Feb 2010 10:0:0", "1 10 10:0:0 FEB"),
            ("10 Feb 2001 1:0:0", "10 01 1:0:0 FEB"),
            ("2 Mar 2069 1:2:3", "1:2:3 2 69 MAR"),
            ("2 Mar 2070 1:2:3", "1:2:3 2 2070 MAR"),
            ("30 Mar 2070 1:2:3", "1:2:3 2070 30 MAR"),
            ("30 Mar 2070 4:2:3", "2070 30 4:2:3 MAR"),
            ("30 Mar 2070 22:2:3", "2070 22:2:3 30 MAR"),
            ("9 Mar 2300 5:2:3", "2300 5:2:3 9 MAR"),
            ("31 Dec 2069 23:59:59", "23:59:59 31 69 DEC"),
            ("31 Dec 1999 3:59:59", "31 3:59:59 99 DEC"),
        ):
            self.assertEqual(shortest_date(tick_of(text)), shortest)
        self.assertEqual(shortest_date(tick=0), "0:0:0 1 70 JAN")
        self.assertEqual(shortest_date(LAST_TICK), "23:59:59 31 9999 DEC")

    def test_what_is_before_1970_is_no_shorter_for_0(self):
        for year in range(1601, 1970):
            self.assertEqual(date_of(f"1 0:0:0 {year} JAN"), 0)
            self.assertGreater(len(f"1 0:0:0 {year} JAN"), len(shortest_date(0)))

    def test_least_of_the_shortest(self):
        numbers = random.Random(17)
        ticks = [numbers.randrange(100 * 366 * DAY) for _ in range(250)]
        ticks += [numbers.randrange(LAST_TICK + 1) for _ in range(100)]
        ticks += [numbers.randrange(36600) * DAY + numbers.choice((0, 1, 60, 3600, 86399)) for _ in range(250)]
        for tick in ticks + [0, 1, LAST_TICK, tick_of("1 Jan 2070 0:0:0"), tick_of("31 Dec 2069 23:59:59")]:
            texts = set(spellings(tick))
            least = min(texts, key=lambda text: (len(text), text))
            self.assertEqual(shortest_date(tick), least)

    def test_each_month_and_day(self):
        for day in range(366 * 4):
            tick = tick_of("1 Jan 2023 7:8:9") + day * DAY
            text = shortest_date(tick)
            self.assertEqual(date_of(text), tick)
            self.assertRegex(text, r"\A[A-Z0-9: ]+\Z")
            self.assertLess(len(text), len(date_text(tick)))

    def test_no_tick(self):
        for value in OTHERS + (LAST_TICK + 1, -1):
            if type(value) is not int or not 0 <= value <= LAST_TICK:
                with self.assertRaises(BadTick) as caught:
                    shortest_date(value)
                self.assertIs(caught.exception.given, value)


class LineTest(unittest.TestCase):
    def test_first_pieces(self):
        for name, value, text in (("a", "b", "a=b"), ("a", "", "a="), ("", "b", "b"), ("", "=b", "==b"), ("", "b=c", "=b=c"),
                                  ("a", "b=c", "a=b=c"), ("", "=", "=="), ("a", "b c", "a=b c"), ("aB", "Cd", "aB=Cd")):
            self.assertEqual(shortest_line(Line(name, value)), text)
            self.assertEqual(read_line(text), Line(name, value))
        self.assertEqual(shortest_line(line=Line("a", "b")), "a=b")

    def test_each_attribute(self):
        for settings, text in (
            ({"domain": "www.a-b.com"}, ";DOMAIN=WWW.A-B.COM"),
            ({"expires": 784111777}, ";EXPIRES=6 8:49:37 94 NOV"),
            ({"expires": 0}, ";EXPIRES=0:0:0 1 70 JAN"),
            ({"is_hidden": True}, ";HTTPONLY"),
            ({"age": 0}, ";MAX-AGE=0"),
            ({"age": 34560000}, ";MAX-AGE=34560000"),
            ({"is_partitioned": True}, ";PARTITIONED"),
            ({"path": "/aB/c"}, ";PATH=/aB/c"),
            ({"priority": 0}, ";PRIORITY=LOW"),
            ({"priority": 1}, ";PRIORITY=MEDIUM"),
            ({"priority": 2}, ";PRIORITY=HIGH"),
            ({"same": "strict"}, ";SAMESITE=STRICT"),
            ({"same": "lax"}, ";SAMESITE=LAX"),
            ({"same": "none"}, ";SAMESITE=NONE"),
            ({"is_secure": True}, ";SECURE"),
        ):
            self.assertEqual(shortest_line(Line("n", "v", **settings)), "n=v" + text)

    def test_all_attributes_ascend(self):
        line = Line("n", "v", expires=0, age=5, domain="a.b", path="/x", is_secure=True, is_hidden=True, same="none",
                    is_partitioned=True, priority=2)
        self.assertEqual(
            shortest_line(line),
            "n=v;DOMAIN=A.B;EXPIRES=0:0:0 1 70 JAN;HTTPONLY;MAX-AGE=5;PARTITIONED;PATH=/x;PRIORITY=HIGH;SAMESITE=NONE;SECURE")

    def test_read_as_the_same_line(self):
        choices = ((None, 0, 784111777), (None, 0, 60), (None, "a.com"), (None, "/x"), (False, True), (False, True),
                   (None, "strict", "none"), (False, True), (None, 0, 2))
        fields = ("expires", "age", "domain", "path", "is_secure", "is_hidden", "same", "is_partitioned", "priority")
        for settings in itertools.product(*choices):
            line = Line("n", "v", **dict(zip(fields, settings)))
            text = shortest_line(line)
            self.assertEqual(read_line(text), line)
            self.assertEqual(defects_of(text), ())
            self.assertLessEqual(len(text), len(write_line(line)))

    def test_no_sign_can_be_left_out(self):
        texts = ["n=v;DOMAIN=A.B;EXPIRES=6 8:49:37 94 NOV;HTTPONLY;MAX-AGE=5;PARTITIONED;PATH=/x;PRIORITY=HIGH;"
                 "SAMESITE=NONE;SECURE", "v;SECURE;PRIORITY=LOW", "=a=b;SAMESITE=STRICT", "a=;EXPIRES=0:0:0 1 70 JAN"]
        for text in texts:
            line = read_line(text)
            self.assertEqual(len(shortest_line(line)), len(text))
            for start in range(len(text)):
                for end in range(start + 1, len(text) + 1):
                    self.assertNotEqual(read_line(text[:start] + text[end:]), line, text[start:end])

    def test_no_shorter_text_of_these_tokens(self):
        tokens = ("a", "=", ";", " ", "SECURE", "path", "/", "max-age", "0", "-")
        many = 0
        for size in range(1, 6):
            for parts in itertools.product(tokens, repeat=size):
                text = "".join(parts)
                line = read_line(text)
                if isinstance(line, Line):
                    shortest = shortest_line(line)
                    self.assertLessEqual(len(shortest), len(text), text)
                    many += len(shortest) < len(text)
        self.assertGreater(many, 1000)


if __name__ == "__main__":
    unittest.main()
