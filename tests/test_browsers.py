"""[51] to [53]: rows, how addresses are loaded, visits, links and closing."""

import unittest

from crumbjar.browsers import Browser
from crumbjar.errors import BadAddress, BadLimit, BadRules, BadTable, BadTick, NoPage
from crumbjar.requests import Request
from crumbjar.words import LAST_TICK
from kinds import OTHERS

RULES = ("com", "net")
PAGE, OTHER, PICTURE = ("https", "a.com", "/"), ("https", "b.com", "/x/y"), ("https", "t.net", "/i")
ORIGIN = PAGE[:2]


def at(path, host="a.com"):
    return ("https", host, path)


def key(name, host="a.com", path="/", space=()):
    return (space, host, True, path, name)


def table_of(**answers):
    """A table from path words to answers, at a.com."""
    return tuple((at("/" + word), answer) for word, answer in answers.items())


def answer(*lines, goal=None, parts=()):
    """An answer whose texts are always received but for those that begin with a question mark."""
    told = tuple(("new", line[1:]) if line.startswith("?") else ("always", line) for line in lines)
    return (told, goal, parts)


def rows_of(browser):
    return list(browser.rows())


def asked(browser):
    """The requests of all rows, as addresses, or words for rows of other kinds."""
    return [row[3].addresses if row[2] == "get" else row[2] for row in browser.rows()]


class RowsTest(unittest.TestCase):
    def test_new_browser(self):
        for browser in (Browser(RULES, ()), Browser((), ((PAGE, answer()),), most_of_family=1, most=1000), Browser(table=(), rules=())):
            self.assertEqual((browser.tick, browser.pages, len(browser), rows_of(browser)), (0, (), 0, []))

    def test_get(self):
        browser = Browser(RULES, ((PAGE, answer("a=*", "?b=1; Path=/", "c=1; Domain=com", "d=1; Max-Age=0", "a=*x; Max-Age=0")),))
        self.assertEqual(browser.visit(PAGE, 5), 1)
        given = (("a=1", "set", key("a")), ("b=1; Path=/", "set", key("b")), ("c=1; Domain=com", "public", None),
                 ("d=1; Max-Age=0", "nothing", key("d")), ("a=1x; Max-Age=0", "removed", key("a")))
        self.assertEqual(rows_of(browser), [(1, 5, "get", Request((PAGE,)), (), given)])
        self.assertEqual(browser.visit(PAGE, 6), 1)
        told = rows_of(browser)[1]
        self.assertEqual(told[:5], (2, 6, "get", Request((PAGE,)), ((key("b"), "1"),)))
        self.assertEqual(told[5][0], ("a=2", "set", key("a")))
        self.assertEqual([text for text, _, _ in told[5]], ["a=2", "c=1; Domain=com", "d=1; Max-Age=0", "a=2x; Max-Age=0"])

    def test_sent_in_order(self):
        deep = at("/x/y")
        browser = Browser(RULES, ((deep, answer("n=1; Path=/", "n=2", "m=3; Path=/", "n=4; Path=/x/y", "n=5; Path=/")),))
        browser.visit(deep, 5)
        browser.visit(deep, 6)
        self.assertEqual(rows_of(browser)[1][4], ((key("n", path="/x/y"), "4"), (key("n", path="/x"), "2"), (key("n"), "5"), (key("m"), "3")))

    def test_new_lines_by_what_was_sent(self):
        browser = Browser(RULES, ((PAGE, answer("?n=1", "?n=2", "?=e", "?m*=1")),))
        browser.visit(PAGE, 5)
        # All of them, as nothing was sent: a crumb that came in the same row is no reason.
        self.assertEqual([word for _, word, _ in rows_of(browser)[0][5]], ["set", "changed", "set", "set"])
        browser.visit(PAGE, 6)
        self.assertEqual(rows_of(browser)[1][5], (("m2=1", "set", key("m2")),))

    def test_number_signs(self):
        browser = Browser(RULES, ((PAGE, answer("n*=*; Path=/*", "x*; Domain=*.com", parts=(("write", "w*=**"),))),))
        browser.visit(PAGE, 5)
        browser.visit(PAGE, 5)
        self.assertEqual([row[5] for row in browser.rows()], [
            (("n1=1; Path=/1", "set", key("n1", path="/1")), ("x1; Domain=1.com", "domain", None)), (("w2=22", "set", key("w2")),),
            (("n3=3; Path=/3", "set", key("n3", path="/3")), ("x3; Domain=3.com", "domain", None)), (("w4=44", "set", key("w4")),)])

    def test_write(self):
        lines = (("write", "a=1"), ("write", "h=1; HttpOnly"), ("write", "a=*; Max-Age=0"))
        browser = Browser(RULES, ((PAGE, answer("k=1; HttpOnly", parts=lines + (("write", "k=2"),))),))
        self.assertEqual(browser.visit(PAGE, 5, is_reading=False), 1)
        script = Request((PAGE,), by="script")
        self.assertEqual(rows_of(browser)[1:], [
            (2, 5, "write", script, (), (("a=1", "set", key("a")),)), (3, 5, "write", script, (), (("h=1; HttpOnly", "hidden", None),)),
            (4, 5, "write", script, (), (("a=4; Max-Age=0", "removed", key("a")),)), (5, 5, "write", script, (), (("k=2", "kept", None),))])

    def test_close(self):
        browser = Browser(RULES, ((PAGE, answer("a=1", "b=1; Max-Age=60")),))
        browser.visit(PAGE, 5)
        self.assertIsNone(browser.close(7))
        self.assertEqual((rows_of(browser)[1], browser.tick, browser.pages), ((2, 7, "close", None, (), ()), 7, ()))
        browser.visit(PAGE, 8)
        self.assertEqual(rows_of(browser)[2][4], ((key("b"), "1"),))

    def test_limits(self):
        browser = Browser(RULES, ((PAGE, answer("a=*", "b=1; Path=/", "c=1")),), most_of_family=2, most=9)
        browser.visit(PAGE, 5)
        browser.visit(PAGE, 6)
        self.assertEqual([pair[1] for pair in rows_of(browser)[1][4]], ["1", "1"])

    def test_looking(self):
        # What was sent is seen, so it goes behind what was not.
        here, there = at("/h/x"), at("/t/x")
        table = ((here, answer("?h=1; Path=/h")), (there, answer("?t=1; Path=/t")), (PAGE, answer("n=1; Path=/")))
        for second, left in ((here, "h"), (there, "t")):
            browser = Browser(RULES, table, most=2)
            for tick, address in enumerate((here, there, second, PAGE, here, there), start=5):
                browser.visit(address, tick)
            self.assertEqual([[told[4] for told, _ in row[4]] for row in rows_of(browser)[4:5]], [["h", "n"] if left == "h" else ["n"]])

    def test_rows_and_len(self):
        browser = Browser(RULES, ())
        for many in range(4):
            self.assertEqual((len(browser), len(rows_of(browser))), (many, many))
            self.assertEqual([row[0] for row in browser.rows()], list(range(1, many + 1)))
            browser.visit(PAGE, many)
        rows = browser.rows()
        self.assertIs(iter(rows), rows)
        self.assertEqual(next(rows)[0], 1)


class LoadingTest(unittest.TestCase):
    def chain(self, many, *lines):
        """A table in which so many addresses have goals, one after the other."""
        return tuple((at(f"/{number}"), answer(*lines, goal=at(f"/{number + 1}"))) for number in range(1, many + 1))

    def test_addresses_without_an_answer(self):
        browser = Browser(RULES, ((OTHER, answer("a=1")),))
        self.assertEqual((browser.visit(PAGE, 5), browser.pages), (1, ((0, PAGE),)))
        self.assertEqual(rows_of(browser), [(1, 5, "get", Request((PAGE,)), (), ())])

    def test_goals(self):
        browser = Browser(RULES, table_of(**{"": answer("a=1", goal=OTHER, parts=(("picture", PICTURE),))}) + ((OTHER, answer("b=*", goal=at("/z"))),))
        self.assertEqual(browser.visit(PAGE, 5), 3)
        self.assertEqual(asked(browser), [(PAGE,), (PAGE, OTHER), (PAGE, OTHER, at("/z"))])
        self.assertEqual(browser.pages, ((0, at("/z")),))
        self.assertEqual([row[5] for row in browser.rows()], [
            (("a=1", "set", key("a")),), (("b=2", "set", key("b", "b.com", "/x")),), ()])
        # A chain by another site is not near, but reads.
        self.assertEqual(rows_of(browser)[2][4], ((key("a"), "1"),))

    def test_nine_ten_and_eleven_addresses(self):
        for goals, many, pages in ((8, 9, ((0, at("/9")),)), (9, 10, ((0, at("/10")),)), (10, 10, ()), (11, 10, ())):
            browser = Browser(RULES, self.chain(goals, "a=*; Path=/"))
            self.assertEqual((browser.visit(at("/1"), 5), browser.pages), (many, pages), goals)
            self.assertEqual([len(addresses) for addresses in asked(browser)], list(range(1, many + 1)))
            self.assertEqual(len([row for row in browser.rows() if row[5]]), min(goals, 10))

    def test_goals_that_go_round(self):
        browser = Browser(RULES, ((PAGE, answer("a=*", goal=PAGE)), (OTHER, answer(parts=(("picture", PAGE), ("frame", PAGE), ("write", "w=1"))))))
        self.assertEqual((browser.visit(PAGE, 5), browser.pages), (10, ()))
        self.assertEqual(asked(browser)[9], (PAGE,) * 10)
        self.assertEqual(rows_of(browser)[9][5], (("a=10", "changed", key("a")),))
        # What follows a chain that comes to nothing is done.
        self.assertEqual((browser.visit(OTHER, 6), browser.pages), (21, ((0, OTHER),)))
        self.assertEqual(asked(browser)[-1], "write")

    def test_what_is_not_reading(self):
        browser = Browser(RULES, ((PAGE, answer(goal=OTHER)), (OTHER, answer(parts=(("frame", PICTURE),)))))
        browser.visit(PAGE, 5, is_reading=False)
        self.assertEqual([row[3] for row in browser.rows()], [
            Request((PAGE,), is_reading=False), Request((PAGE, OTHER)), Request((PICTURE,), frames=(OTHER[:2],))])

    def test_parts_in_their_order(self):
        parts = (("picture", PICTURE), ("frame", OTHER), ("write", "w=1"), ("picture", at("/z")))
        inner = (("write", "v=1"), ("picture", PICTURE))
        browser = Browser(RULES, ((PAGE, answer("a=1", parts=parts)), (OTHER, answer("b=1", parts=inner)),
                                  (PICTURE, answer("i=1", goal=at("/p"), parts=parts)), (at("/p"), answer(parts=inner))))
        self.assertEqual(browser.visit(PAGE, 5), 7)
        within, deep = (ORIGIN,), (ORIGIN, OTHER[:2])
        self.assertEqual([row[3] for row in browser.rows()], [
            Request((PAGE,)), Request((PICTURE,), frames=within), Request((PICTURE, at("/p")), frames=within), Request((OTHER,), frames=within),
            Request((OTHER,), frames=within, by="script"), Request((PICTURE,), frames=deep), Request((PICTURE, at("/p")), frames=deep),
            Request((PAGE,), by="script"), Request((at("/z"),), frames=within)])
        self.assertEqual(browser.pages, ((0, PAGE), (1, OTHER)))
        self.assertEqual([row[5] for row in browser.rows()][3:5], [(("b=1", "cross", None),), (("v=1", "cross", None),)])

    def test_pages_are_where_their_chains_end(self):
        browser = Browser(RULES, ((PAGE, answer(goal=at("/top"))), (at("/top"), answer(parts=(("frame", OTHER),))), (OTHER, answer(goal=PICTURE)),
                                  (PICTURE, answer(parts=(("frame", at("/in")), ("write", "x=1; Secure; SameSite=None"))))))
        self.assertEqual(browser.visit(PAGE, 5), 5)
        self.assertEqual(browser.pages, ((0, at("/top")), (1, PICTURE), (2, at("/in"))))
        requests = [row[3] for row in browser.rows()]
        self.assertEqual(requests[4], Request((at("/in"),), frames=(ORIGIN, PICTURE[:2])))
        self.assertEqual(requests[5], Request((PICTURE,), frames=(ORIGIN,), by="script"))
        self.assertEqual(rows_of(browser)[5][5], (("x=1; Secure; SameSite=None", "set", key("x", "t.net")),))

    def test_frames_in_frames(self):
        # A page that has itself as a frame: the one with five frames leaves it out.
        browser = Browser(RULES, ((PAGE, answer(parts=(("frame", PAGE), ("picture", PICTURE), ("write", "w=*")))),))
        self.assertEqual(browser.visit(PAGE, 5), 12)
        self.assertEqual(browser.pages, tuple((many, PAGE) for many in range(6)))
        frames = [(row[2], len(row[3].frames)) for row in browser.rows()]
        self.assertEqual(frames, [("get", many) for many in range(6)]
                         + [(kind, many + (kind == "get")) for many in (5, 4, 3, 2, 1, 0) for kind in ("get", "write")])

    def test_pages_with_four_five_and_six_frames(self):
        pages = tuple((at(f"/{number}"), answer(parts=(("frame", at(f"/{number + 1}")),) * (2 if number == 4 else 1) + (("write", f"w{number}=1"),)))
                      for number in range(8))
        browser = Browser(RULES, pages)
        self.assertEqual(browser.visit(at("/0"), 5), 7)
        self.assertEqual(browser.pages, tuple((many, at(f"/{many}")) for many in (0, 1, 2, 3, 4, 5, 5)))
        self.assertEqual([row[5][0][0] for row in browser.rows() if row[2] == "write"],
                         ["w5=1", "w5=1", "w4=1", "w3=1", "w2=1", "w1=1", "w0=1"])

    def test_the_hundred_and_first_request_in_the_middle_of_parts(self):
        leaf = answer(parts=(("picture", PICTURE),) * 3 + (("write", "w=*"),))
        middle = answer(parts=(("frame", at("/leaf")),) * 4)
        upper = answer(parts=(("frame", at("/middle")),) * 4)
        top = answer(parts=(("frame", at("/upper")), ("frame", at("/upper")), ("write", "last=1")))
        browser = Browser(RULES, table_of(leaf=leaf, middle=middle, upper=upper, top=top))
        # One leaf makes 4 requests, a middle one 17, an upper one 69: the second upper one is cut in its second middle one.
        self.assertEqual(browser.visit(at("/top"), 5), 100)
        rows = rows_of(browser)
        self.assertEqual(len([row for row in rows if row[2] == "get"]), 100)
        self.assertEqual(rows[-1][3], Request((PICTURE,), frames=tuple([ORIGIN] * 4)))
        self.assertEqual(browser.pages[0], (0, at("/top")))
        self.assertNotIn("last=1", [row[5][0][0] for row in rows if row[2] == "write"])
        self.assertEqual(browser.visit(PAGE, 5), 1)

    def cut(self, pictures, *parts):
        """A browser that has made 95 requests, those of some pictures, and then those of some parts; and how many."""
        four = answer(parts=(("picture", PICTURE),) * 4)
        eight = answer(parts=(("frame", at("/four")),) * 3 + (("frame", at("/three")),))
        three = answer(parts=(("picture", PICTURE),) * 3)
        # /eight makes 1 + 3 * 5 + 4 = 20 requests: /top, /eights, 80, /rest, 5, 5, 1 and /end are 95.
        top = answer(parts=(("frame", at("/eights")), ("frame", at("/rest")), ("frame", at("/end"))))
        rest = answer(parts=(("frame", at("/four")), ("frame", at("/four")), ("picture", PICTURE)))
        eights = answer(parts=(("frame", at("/eight")),) * 4)
        end = answer(parts=(("picture", PICTURE),) * pictures + parts)
        browser = Browser(RULES, table_of(four=four, three=three, eight=eight, eights=eights, rest=rest, end=end, top=top, round=answer(goal=at("/round")))
                          + ((OTHER, answer("o=1; Secure; SameSite=None", goal=at("/goal"))),))
        return browser, browser.visit(at("/top"), 5)

    def test_just_a_hundred(self):
        browser, many = self.cut(0)
        self.assertEqual(many, 95)
        browser, many = self.cut(3, ("write", "w=1"))
        self.assertEqual((many, rows_of(browser)[-1][2]), (98, "write"))
        # What is no request is still done behind the hundredth one.
        browser, many = self.cut(1, ("frame", OTHER), ("frame", OTHER), ("write", "w=1"))
        self.assertEqual((many, asked(browser)[-2:]), (100, [(OTHER, at("/goal")), "write"]))
        self.assertEqual(browser.pages[-1], (2, at("/goal")))

    def test_the_hundred_and_first_request_in_the_middle_of_a_chain(self):
        browser, many = self.cut(2, ("frame", OTHER), ("frame", OTHER))
        self.assertEqual((many, asked(browser)[-3:]), (100, [(OTHER,), (OTHER, at("/goal")), (OTHER,)]))
        # The first one is a page, the second one is not.
        self.assertEqual(browser.pages[-2:], ((1, at("/end")), (2, at("/goal"))))
        browser, many = self.cut(2, ("picture", OTHER), ("picture", OTHER))
        self.assertEqual((many, asked(browser)[-3:]), (100, [(OTHER,), (OTHER, at("/goal")), (OTHER,)]))
        browser, many = self.cut(0, ("frame", at("/round")), ("write", "w=1"))
        self.assertEqual((many, asked(browser)[-1]), (100, (at("/round"),) * 5))

    def test_a_chain_that_comes_to_nothing_with_the_hundredth_request(self):
        # /forty makes 41 requests, /double 83 and /six 6: with /top these are 90.
        browser = Browser(RULES, table_of(
            top=answer(parts=(("frame", at("/double")), ("frame", at("/six")), ("picture", at("/round")), ("write", "w=1"))),
            double=answer(parts=(("frame", at("/forty")),) * 2), forty=answer(parts=(("picture", at("/round")),) * 4),
            six=answer(parts=(("picture", at("/two")), ("picture", at("/two")), ("picture", PICTURE))), two=answer(goal=PICTURE),
            round=answer(goal=at("/round"))))
        self.assertEqual(browser.visit(at("/top"), 5), 100)
        self.assertEqual(asked(browser)[-2:], [(at("/round"),) * 10, "write"])


class VisitsTest(unittest.TestCase):
    def test_pages_are_taken_away(self):
        browser = Browser(RULES, ((PAGE, answer(parts=(("frame", OTHER),))), (at("/loop"), answer(goal=at("/loop")))))
        browser.visit(PAGE, 5)
        self.assertEqual(browser.pages, ((0, PAGE), (1, OTHER)))
        browser.visit(OTHER, 6)
        self.assertEqual((browser.pages, browser.tick), (((0, OTHER),), 6))
        browser.visit(at("/loop"), 6)
        self.assertEqual(browser.pages, ())

    def test_links(self):
        browser = Browser(RULES, ((PAGE, answer("s=1; SameSite=Strict; Path=/", "l=1; SameSite=Lax; Path=/", parts=(("frame", OTHER),))),))
        browser.visit(PAGE, 5)
        self.assertEqual(browser.follow(at("/x"), 6), 1)
        self.assertEqual(rows_of(browser)[-1][3:5], (Request((at("/x"),), starter=ORIGIN), ((key("s"), "1"), (key("l"), "1"))))
        self.assertEqual(browser.follow(OTHER, 7, is_reading=False), 1)
        self.assertEqual(rows_of(browser)[-1][3], Request((OTHER,), starter=ORIGIN, is_reading=False))
        self.assertEqual(browser.follow(tick=7, address=PAGE), 2)
        self.assertEqual([row[3] for row in rows_of(browser)[-2:]], [Request((PAGE,), starter=OTHER[:2]), Request((OTHER,), frames=(ORIGIN,))])
        self.assertEqual(rows_of(browser)[-2][4], ((key("l"), "1"),))

    def test_the_starter_stays_for_the_whole_chain(self):
        browser = Browser(RULES, ((PAGE, answer(goal=at("/g"))),))
        browser.visit(OTHER, 5)
        browser.follow(PAGE, 5, is_reading=False)
        self.assertEqual([row[3] for row in browser.rows()][1:], [
            Request((PAGE,), starter=OTHER[:2], is_reading=False), Request((PAGE, at("/g")), starter=OTHER[:2])])

    def test_links_of_the_page_where_the_chain_ended(self):
        browser = Browser(RULES, ((PAGE, answer(goal=OTHER)),))
        browser.visit(PAGE, 5)
        browser.follow(at("/x"), 5)
        self.assertEqual(rows_of(browser)[-1][3].starter, OTHER[:2])

    def test_no_page(self):
        browser = Browser(RULES, ((PAGE, answer(goal=PAGE)),))
        def check():
            before = rows_of(browser), browser.tick, browser.pages
            for address, tick in ((OTHER, 9), (None, None), (OTHER, -1)):
                with self.assertRaises(NoPage):
                    browser.follow(address, tick)
            self.assertEqual((rows_of(browser), browser.tick, browser.pages), before)
        check()
        browser.visit(PAGE, 5)
        check()
        browser.visit(OTHER, 5)
        browser.close(6)
        check()
        browser.visit(OTHER, 7)
        browser.follow(PAGE, 7)
        check()

    def test_ticks(self):
        browser = Browser(RULES, ())
        browser.visit(PAGE, 5)
        for tick in (4, -1, LAST_TICK + 1, True, 5.0, None, "5"):
            for call in (lambda: browser.visit(PAGE, tick), lambda: browser.follow(PAGE, tick), lambda: browser.close(tick)):
                with self.assertRaises(BadTick) as caught:
                    call()
                self.assertIs(caught.exception.given, tick)
        self.assertEqual((browser.tick, len(browser), browser.pages), (5, 1, ((0, PAGE),)))
        browser.visit(PAGE, 5)
        browser.close(5)
        browser.visit(PAGE, LAST_TICK)
        self.assertEqual((browser.tick, len(browser)), (LAST_TICK, 4))

    def test_addresses(self):
        browser = Browser(RULES, ())
        browser.visit(PAGE, 5)
        for value in (*OTHERS, list(PAGE), "https://a.com/", ("https", "A.com", "/")):
            if value != ("http", "a.com", "/"):
                for call in (browser.visit, browser.follow):
                    for tick in (6, 4, None):
                        with self.assertRaises(BadAddress) as caught:
                            call(value, tick)
                        self.assertIsNone(caught.exception.place)
        self.assertEqual((browser.tick, len(browser), browser.pages), (5, 1, ((0, PAGE),)))

    def test_by_name_only(self):
        browser = Browser(RULES, ())
        for call in (lambda: browser.visit(PAGE, 5, False), lambda: Browser((), (), 5)):
            with self.assertRaises(TypeError):
                call()

    def test_constructor_errors_in_their_order(self):
        for value in OTHERS:
            if value not in ((), ("http",), ("http", "a.com")):
                with self.assertRaises(BadRules):
                    Browser(value, None, most_of_family=None, most=None)
            if value != ():
                with self.assertRaises(BadTable) as caught:
                    Browser((), value, most_of_family=None, most=None)
                self.assertEqual(caught.exception.index, 0 if isinstance(value, tuple) else None)
            for settings, field in (({"most_of_family": value, "most": value}, "most_of_family"), ({"most": value}, "most")):
                if value not in (7, 1) or isinstance(value, (bool, float)):
                    with self.assertRaises(BadLimit) as caught:
                        Browser((), (), **settings)
                    self.assertEqual(caught.exception.field, field)


if __name__ == "__main__":
    unittest.main()
