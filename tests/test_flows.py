"""[54] and [55]: who set what is sent, rows alone, groups, audits, and the facts about rows."""

import itertools
import random
import unittest

from crumbjar.browsers import Browser
from crumbjar.errors import BadHost, BadLimit, BadRows, BadRules, NoRow
from crumbjar.flows import alone, audit, groups, setter_of
from crumbjar.jars import Jar
from crumbjar.lines import read_line
from crumbjar.pieces import pieces_of
from crumbjar.requests import Request, lax, near, partition_of
from crumbjar.suffixes import family_of
from crumbjar.words import LAST_TICK
from kinds import OTHERS, not_tuples
from some_browsers import FAMILIES, RULES, TEXTS, some_browser

PAGE, OTHER = Request((("https", "a.com", "/"),)), Request((("https", "b.com", "/"),))
SCRIPT = Request((("https", "a.com", "/"),), by="script")
PARTITION = (("https", "a.com"), False)


def key(name, host="a.com", space=()):
    return (space, host, True, "/", name)


def got(number, sent=(), given=(), request=PAGE, tick=5):
    """A row of kind get; what was sent and given is told by pairs of a name and a value."""
    return (number, tick, "get", request, tuple((key(name), value) for name, value in sent),
            tuple((f"{name}={value}", "set", key(name)) for name, value in given))


WRITTEN = (2, 5, "write", SCRIPT, (), (("n=2", "changed", key("n")),))
CLOSED = (3, 6, "close", None, (), ())


class RowsTest(unittest.TestCase):
    """What is no row, and the order of the errors."""

    def calls(self, rows):
        """All functions with these rows, other arguments being right."""
        return (lambda: setter_of(rows, 1, key("n")), lambda: alone(RULES, rows, "a.com"), lambda: groups(RULES, rows, "a.com", "n"),
                lambda: audit(RULES, rows))

    def check_bad(self, rows, index):
        for call in self.calls(rows):
            with self.assertRaises(BadRows) as caught:
                call()
            self.assertEqual(caught.exception.index, index, rows)

    def check_right(self, *rows):
        for function in self.calls(rows)[1:]:
            function()

    def test_right_forms(self):
        self.check_right()
        self.check_right(got(1), WRITTEN, CLOSED)
        self.check_right(got(7, tick=LAST_TICK), got(10 ** 30, tick=LAST_TICK))
        self.check_right(got(1, tick=0), got(2, tick=0))
        self.check_right((1, 5, "get", Request(PAGE.addresses * 10, frames=(("https", "b.com"),) * 6), (), (("", "no word", None),) * 9))
        self.check_right((1, 5, "get", PAGE, ((key("n", "b.com", (("https", "x.com"), True)), "any"),) * 2, (("\n;", "", key("x", "c.net")),)))
        self.check_right((1, 5, "write", Request(SCRIPT.addresses, frames=(("https", "b.com"),), by="script"), (), (("", "line", None),)))

    def test_no_tuples(self):
        for value in not_tuples():
            self.check_bad(value, None)
        self.check_bad([got(1)], None)

    def test_wrong_forms(self):
        wrong = [value for value in OTHERS]
        for row in (got(2, [("n", "1")], [("n", "1")]), WRITTEN, (2, 6, "close", None, (), ())):
            wrong += [row[:5], row + ((),), list(row)]
            for at, others in enumerate((
                (0, -1, True, 1.0, "2", None, (2,)), (-1, LAST_TICK + 1, True, 5.0, None, "5"), ("Get", "look", "", None, 5, ["get"], ("get",)),
                (None, OTHER, SCRIPT, PAGE.addresses, "x", 5), ((), None, [], ((key("n"), "1"),), ((key("n"), 1),), ((key("n"),),), ((key("n"), "1", "2"),),
                                                                ((None, "1"),), ((("n",), "1"),), ([key("n"), "1"],), [(key("n"), "1")], "", (5,)),
                ((), None, [], (("n=1", "set", key("n")),), (("n=1", "set", key("n")),) * 2, (("n=1", "set"),), (("n=1", "set", key("n"), 1),), (("n=1", "set", "n"),),
                 (("n=1", 5, None),), ((5, "set", None),), (("n=1", None, None),), (["n=1", "set", None],), [("n=1", "set", None)], (5,), "")
            )):
                for value in others:
                    changed = row[:at] + (value,) + row[at + 1:]
                    if self.is_right(changed):
                        self.check_right(changed)
                    else:
                        wrong.append(changed)
        for value in wrong:
            self.check_bad((value,), 0)
            self.check_bad((got(1), value, None), 1)

    def is_right(self, row):
        """Whether one of the changed rows is right all the same, told without a look at the program."""
        kind, request, sent, given = row[2:]
        triples = [("n=1", "set", key("n"))] * len(given or ())
        if kind == "close":
            return request is None and sent == () and given == () and row[:2] == (2, 6)
        if row[0] != 2 or type(row[0]) is not int or row[1] != 5 or type(row[1]) is not int or not isinstance(request, Request):
            return False
        if not isinstance(given, tuple) or (given != WRITTEN[5] and given != tuple(triples)):
            return False
        if kind == "write":
            return request.by == "script" and sent == () and len(given) == 1
        return kind == "get" and request.by == "http" and sent in ((), ((key("n"), "1"),)) and isinstance(sent, tuple)

    def test_numbers_and_ticks(self):
        self.check_bad((got(1), got(1)), 1)
        self.check_bad((got(2), got(3), got(2), None), 2)
        self.check_bad((got(1, tick=6), got(2, tick=6), got(3, tick=5), None), 2)
        self.check_bad((got(0), None), 0)
        self.check_right(got(3, tick=5), got(5, tick=5), got(9, tick=7))

    def test_errors_in_their_order(self):
        for value in OTHERS:
            if value not in ((), ("http",), ("http", "a.com")):
                for call in (lambda: alone(value, None, None), lambda: groups(value, None, None, None), lambda: audit(value, None, most=0)):
                    with self.assertRaises(BadRules):
                        call()
            with self.assertRaises(BadRows):
                audit(RULES, (value,), most_of_family=value, most=value)
            with self.assertRaises(BadRows):
                setter_of((value,), value, value)
        for function in (alone, groups):
            more = ("n",) if function is groups else ()
            for family, place in ((None, 0), (5, 0), (("a.com",), 0), ("", 1), ("A.com", 1), ("a..b", 3), ("a.com.", 7), ("1.2.3", 6)):
                with self.assertRaises(BadHost) as caught:
                    function(RULES, (got(1),), family, *more)
                with self.assertRaises(BadHost) as wanted:
                    Jar(RULES).clear(family, 5)
                self.assertEqual(caught.exception.place, wanted.exception.place)
                with self.assertRaises(BadRows):
                    function(RULES, (None,), family, *more)
        for value in OTHERS:
            for settings, field in (({"most_of_family": value, "most": value}, "most_of_family"), ({"most": value}, "most")):
                if value not in (7, 1) or isinstance(value, (bool, float)):
                    with self.assertRaises(BadLimit) as caught:
                        audit(RULES, (got(1),), **settings)
                    self.assertEqual(caught.exception.field, field)
        with self.assertRaises(TypeError):
            audit(RULES, (), 20)


class SetterTest(unittest.TestCase):
    ROWS = (got(1, given=[("n", "1"), ("m", "1")]), got(3, [("n", "1")], [("n", "3")], tick=6), (4, 7, "write", SCRIPT, (), (("n=4", "changed", key("n")),)),
            (6, 7, "get", PAGE, ((key("n"), "4"),), (("n=x; Max-Age=0", "removed", key("n")), ("m=1; Max-Age=0", "nothing", key("m")), ("m=2", "kept", None))),
            (8, 8, "close", None, (), ()), got(9, tick=9))

    def test_setters(self):
        for number, name, setter in ((1, "n", None), (3, "n", 1), (4, "n", 3), (6, "n", 4), (8, "n", 4), (9, "n", 4), (1, "m", None), (3, "m", 1),
                                     (9, "m", 1), (9, "o", None)):
            self.assertEqual(setter_of(self.ROWS, number, key(name)), setter, (number, name))
        self.assertIsNone(setter_of(self.ROWS, 9, key("n", "b.com")))
        self.assertIsNone(setter_of(self.ROWS, 9, key("n", space=PARTITION)))
        self.assertEqual(setter_of(key=key("n"), number=9, rows=self.ROWS), 4)
        self.assertEqual(setter_of(self.ROWS[1:], 9, key("n")), 4)
        self.assertIsNone(setter_of(self.ROWS[3:], 9, key("n")))

    def test_no_rows(self):
        for number in (0, 2, 5, 10, -1, True, 1.0, "1", None, (1,), [1], 3.0, {}):
            with self.assertRaises(NoRow) as caught:
                setter_of(self.ROWS, number, key("n"))
            self.assertIs(caught.exception.number, number)
        with self.assertRaises(NoRow):
            setter_of((), 1, key("n"))


class AloneTest(unittest.TestCase):
    def test_families(self):
        deep = got(4, request=Request((("http", "b.com", "/"), ("http", "x.y.a.com", "/z"))), tick=6)
        rows = (got(1), (2, 5, "write", SCRIPT, (), (("n=2", "changed", key("n")),)), CLOSED, deep, got(5, request=OTHER, tick=7), (9, 8, "close", None, (), ()))
        self.assertEqual(alone(RULES, rows, "a.com"), rows[:4] + rows[5:])
        self.assertEqual(alone(family="b.com", rows=rows, rules=RULES), (rows[2], rows[4], rows[5]))
        for family in ("x.y.a.com", "com", "y.a.com", "c.com"):
            self.assertEqual(alone(RULES, rows, family), (rows[2], rows[5]))
        self.assertEqual(alone(("com", "y.a.com"), rows, "x.y.a.com"), rows[2:4] + rows[5:])
        self.assertEqual(alone(RULES, (), "a.com"), ())


class GroupsTest(unittest.TestCase):
    def groups(self, *rows):
        return groups(RULES, rows, "a.com", "n")

    def test_values(self):
        self.assertEqual(self.groups(), ())
        self.assertEqual(self.groups(got(1)), ())
        self.assertEqual(self.groups(got(1, given=[("n", "x")])), ((1,),))
        self.assertEqual(self.groups(got(1, [("n", "x")])), ((1,),))
        self.assertEqual(self.groups(got(2, given=[("n", "x")]), got(5, [("n", "x")]), got(6, given=[("n", "y")])), ((2, 5), (6,)))
        self.assertEqual(self.groups(got(2, given=[("m", "x")]), got(5, [("n", "x")]), got(6, [("m", "x")])), ((5,),))

    def test_joined(self):
        self.assertEqual(self.groups(got(1, given=[("n", "x")]), got(2, given=[("n", "y")]), got(3, [("n", "x")], [("n", "z")]), got(4, [("n", "z")]),
                                     got(5, [("n", "y")])), ((1, 3, 4), (2, 5)))
        self.assertEqual(self.groups(got(1, given=[("n", "x")]), got(2, given=[("n", "y")]), got(7, [("n", "x"), ("n", "y")])), ((1, 2, 7),))
        self.assertEqual(self.groups(got(1, given=[("n", "c")]), got(2, given=[("n", "b")]), got(3, [("n", "a"), ("n", "b")]), got(4, given=[("n", "a"), ("n", "c")])),
                         ((1, 2, 3, 4),))

    def test_what_counts(self):
        changed = (1, 5, "get", PAGE, (), (("n=x ; Path=/; y=z", "changed", key("n")),))
        self.assertEqual(self.groups(changed, got(2, [("n", "x")])), ((1, 2),))
        for word in ("removed", "nothing", "kept", "line", "set "):
            self.assertEqual(self.groups((1, 5, "get", PAGE, (), (("n=x", word, key("n")),)), got(2, [("n", "x")])), ((2,),))
        self.assertEqual(self.groups((1, 5, "get", PAGE, (), (("n=x", "set", None),)), got(2, [("n", "x")])), ((2,),))
        # A script's row, a closing and the rows of other families are in no group.
        self.assertEqual(self.groups(got(1, [("n", "x")]), WRITTEN, CLOSED, got(4, [("n", "x")], request=OTHER, tick=6), got(5, [("n", "2")], tick=6)), ((1,), (5,)))
        self.assertEqual(groups(RULES, (got(4, [("n", "x")], request=OTHER),), "b.com", "n"), ((4,),))
        # The same value of another key of this name joins, one of another name does not.
        other = (3, 5, "get", PAGE, ((key("n", "www.a.com", PARTITION), "x"), (key("N"), "y")), ())
        self.assertEqual(self.groups(got(1, [("n", "x")]), got(2, [("n", "y")]), other), ((1, 3), (2,)))
        self.assertEqual(groups(name="", family="a.com", rows=((1, 5, "get", PAGE, (), (("v", "set", key("")),)),), rules=RULES), ((1,),))
        self.assertEqual(groups(RULES, (got(1, [("n", "x")]),), "a.com", "x"), ())

    def test_many_rows(self):
        rows = tuple(got(number, [("n", "x"), ("n", f"y{number}")]) for number in range(1, 1500))
        self.assertEqual(self.groups(*rows), (tuple(range(1, 1500)),))


class AuditTest(unittest.TestCase):
    def rows(self):
        page, picture = PAGE.target, ("https", "t.net", "/i")
        table = ((page, ((("new", "n=*"), ("always", "m=*; Max-Age=3")), None, (("picture", picture), ("write", "w=*")))),
                 (picture, ((("new", "u=*; Secure; SameSite=None"),), None, ())))
        browser = Browser(RULES, table)
        for tick in (5, 6, 9):
            browser.visit(page, tick)
        browser.close(10)
        browser.visit(page, 11)
        return tuple(browser.rows())

    def test_right_rows(self):
        rows = self.rows()
        self.assertIsNone(audit(RULES, rows))
        self.assertIsNone(audit(most=60, most_of_family=20, rows=rows, rules=RULES))
        self.assertIsNone(audit(RULES, ()))
        self.assertIsNone(audit(RULES, tuple((row[0] * 7, *row[1:]) for row in rows)))

    def test_what_differs(self):
        rows = self.rows()
        for index, row in enumerate(rows):
            changes = []
            if row[4]:
                changes += [(4, row[4][:-1], "sent"), (4, row[4][::-1] if len(row[4]) > 1 else (), "sent"), (4, ((row[4][0][0], "other"), *row[4][1:]), "sent"),
                            (4, ((key("x"), row[4][0][1]), *row[4][1:]), "sent")]
            if row[2] == "get":
                changes.append((4, row[4] + ((key("x"), "1"),), "sent"))
            for at, (text, word, told) in enumerate(row[5]):
                for triple in ((text, "removed", told), (text, word, None), (text, word, key("x")), (text + "; Path=/z", word, told)):
                    changes.append((5, row[5][:at] + (triple,) + row[5][at + 1:], "given"))
            for part, worth, word in changes:
                changed = rows[:index] + (row[:part] + (worth,) + row[part + 1:],) + rows[index + 1:]
                self.assertEqual(audit(RULES, changed), (row[0], word), (row, worth))

    def test_the_first_row_that_differs(self):
        rows = list(self.rows())
        rows[3] = (*rows[3][:5], (("n=5", "set", key("n")),) + rows[3][5])
        self.assertEqual(audit(RULES, tuple(rows)), (4, "given"))
        rows[1] = (*rows[1][:4], ((key("x"), "1"),), (("n=5", "none", None),))
        self.assertEqual(audit(RULES, tuple(rows)), (2, "sent"))
        # Without the rows ahead of it, a row that sends what they set differs.
        self.assertEqual(audit(RULES, self.rows()[3:]), (4, "sent"))
        self.assertEqual(audit(RULES, (got(5, given=[("n", "1")]), got(7, given=[("n", "1")]))), (7, "sent"))

    def test_closing_and_ending(self):
        rows = self.rows()
        closing = [row for row in rows if row[2] == "close"][0]
        self.assertEqual(audit(RULES, tuple(row for row in rows if row != closing)), (closing[0] + 1, "sent"))

    def test_limits_and_rules(self):
        rows = self.rows()
        self.assertEqual(audit(RULES, rows, most_of_family=1)[1], "sent")
        self.assertEqual(audit(RULES, rows, most=1)[1], "sent")
        self.assertEqual(audit(("com", "net", "a.com"), (got(1, given=[("n", "1")]), (2, 5, "get", PAGE, ((key("n"), "1"),), (("n=1; Domain=a.com", "changed", key("n")),)))), None)
        self.assertEqual(audit(("com",), (got(1, given=[("n", "1")]), (2, 5, "get", PAGE, ((key("n"), "1"),), (("n=1; Domain=a.com", "changed", key("n")),)))), (2, "given"))


class FactsTest(unittest.TestCase):
    def browsers(self, many, **settings):
        for seed in range(many):
            yield tuple(some_browser(random.Random(seed), **settings).rows())

    def test_what_is_sent_was_set_by_the_family(self):
        sent_rows, with_space = 0, 0
        for rows in self.browsers(30):
            by_number = {row[0]: row for row in rows}
            for number, tick, kind, request, sent, given in rows:
                for told, value in sent:
                    setter = by_number[setter_of(rows, number, told)]
                    self.assertLess(setter[0], number)
                    self.assertEqual(family_of(RULES, setter[3].target[1]), family_of(RULES, request.target[1]))
                    lines = [pieces_of(text)[0][1] for text, word, other in setter[5] if other == told and word in ("set", "changed")]
                    self.assertEqual(lines[-1], value)
                    if told[0] != ():
                        self.assertEqual(told[0], partition_of(RULES, request))
                        self.assertEqual(told[0], partition_of(RULES, setter[3]))
                        with_space += 1
                    same = [read_line(text).same for text, word, other in setter[5] if other == told and word in ("set", "changed")][-1]
                    if not near(RULES, request):
                        self.assertNotEqual(same, "strict")
                    if not lax(RULES, request):
                        self.assertIn(same, ("none", None))
                    sent_rows += 1
        self.assertGreater(min(sent_rows, with_space), 50)

    def test_rows_alone_send_and_give_the_same(self):
        cut = 0
        for most_of_family, rows in [(limit, rows) for limit in (20, 2) for rows in self.browsers(25, most_of_family=limit, most=1000)]:
            self.assertIsNone(audit(RULES, rows, most_of_family=most_of_family, most=1000))
            for family in FAMILIES:
                part = alone(RULES, rows, family)
                self.assertIsNone(audit(RULES, part, most_of_family=most_of_family, most=1000))
                cut += 0 < len(part) < len(rows)
        self.assertGreater(cut, 100)

    def test_small_jars(self):
        for rows in self.browsers(40, most=3):
            self.assertIsNone(audit(RULES, rows, most=3))

    def test_groups_by_their_words(self):
        for rows in self.browsers(30):
            for family, name in itertools.product(FAMILIES, ("n", "u", "p", "s", "m", "")):
                values = {}
                for row in rows:
                    if row[2] == "get" and family_of(RULES, row[3].target[1]) == family:
                        told = {value for other, value in row[4] if other[4] == name}
                        told |= {pieces_of(text)[0][1] for text, word, other in row[5] if word in ("set", "changed") and other[4] == name}
                        if told:
                            values[row[0]] = told
                found = []
                for number, told in values.items():
                    joined = [group for group in found if group[1] & told]
                    found = [group for group in found if group not in joined]
                    found.append((sorted(sum((group[0] for group in joined), [number])), told.union(*(group[1] for group in joined))))
                self.assertEqual(groups(RULES, rows, family, name), tuple(sorted(tuple(group[0]) for group in found)))

    def test_groups_lie_in_one_partition(self):
        texts = [text for text in TEXTS if not text.startswith("p")] + [text for text in TEXTS if text.startswith("p")] * 5
        many = 0
        for rows in self.browsers(60, texts=texts):
            by_number = {row[0]: row for row in rows}
            for family in FAMILIES:
                for group in groups(RULES, rows, family, "p"):
                    self.assertEqual(len({partition_of(RULES, by_number[number][3]) for number in group}), 1)
                    many += len(group) > 1
        self.assertGreater(many, 50)

    def test_no_group_has_a_framed_row_that_is_not_near(self):
        many = 0
        for rows in self.browsers(60):
            by_number = {row[0]: row for row in rows}
            for family in FAMILIES:
                for group in groups(RULES, rows, family, "s"):
                    for number in group:
                        self.assertTrue(not by_number[number][3].frames or near(RULES, by_number[number][3]))
                    many += len(group) > 1
        self.assertGreater(many, 10)


if __name__ == "__main__":
    unittest.main()
