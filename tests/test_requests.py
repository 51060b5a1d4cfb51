"""[20] and [21]: requests, and whether they are near or lax, and in which partition."""

import itertools
import unittest

from crumbjar.errors import BadRequest, BadRules
from crumbjar.requests import Request, lax, near, partition_of
from crumbjar.suffixes import site_of
from kinds import OTHERS

PAGE = ("https", "www.a.com", "/x")
SHOP = ("https", "shop.a.com", "/y")
PLAIN = ("http", "www.a.com", "/x")
NEWS = ("https", "news.org", "/")
HERE = ("https", "a.com")
THERE = ("https", "news.org")
THIRD = ("http", "third.net")
RULES = ("com", "co.uk")
WRONG_RULES = ((None, None), ([], None), ("com", None), (("com", "com"), 1), (("a", "-"), 1), ((5,), 0))
WRONG_REQUESTS = tuple(value for value in OTHERS) + ((PAGE,), PAGE, Request)


def all_requests():
    """Requests of all kinds over a few places."""
    chains = [(PAGE,), (PLAIN,), (NEWS,), (SHOP, PAGE), (NEWS, PAGE), (PAGE, NEWS, PAGE), (PLAIN, PAGE), (PAGE, PLAIN)]
    for chain in chains:
        for is_reading in (True, False):
            for starter in (None, HERE, THERE, ("http", "a.com"), ("https", "other.com")):
                yield Request(chain, starter=starter, is_reading=is_reading)
            for frames in itertools.chain.from_iterable(itertools.product((HERE, THERE, THIRD), repeat=many)
                                                        for many in (1, 2, 3)):
                yield Request(chain, frames=frames, is_reading=is_reading)
                if is_reading and len(chain) == 1:
                    yield Request(chain, frames=frames, by="script")


class RequestTest(unittest.TestCase):
    def check_field(self, field, *arguments, **settings):
        with self.assertRaises(BadRequest) as caught:
            Request(*arguments, **settings)
        self.assertEqual(caught.exception.field, field)

    def test_what_it_has(self):
        request = Request((PAGE,))
        self.assertEqual((request.addresses, request.starter, request.frames, request.is_reading, request.by,
                          request.target), ((PAGE,), None, (), True, "http", PAGE))
        request = Request(addresses=(NEWS, PAGE), starter=THERE, is_reading=False)
        self.assertEqual((request.addresses, request.starter, request.is_reading, request.target),
                         ((NEWS, PAGE), THERE, False, PAGE))
        request = Request((PAGE,), frames=(HERE, THIRD), by="script")
        self.assertEqual((request.frames, request.by), ((HERE, THIRD), "script"))

    def test_addresses(self):
        self.assertEqual(len(Request((PAGE,) * 10).addresses), 10)
        for value in OTHERS + ((), [PAGE], (PAGE,) * 11, PAGE, (PAGE, HERE), (PAGE, None), (None, PAGE),
                               (["https", "a.com", "/"],), (("https", "a.com", "x"),), (("ftp", "a.com", "/"),), "https://a.com/"):
            self.check_field("addresses", value)
            self.check_field("addresses", value, starter=5, frames=5, is_reading=5, by=5)

    def test_starters(self):
        for value in OTHERS + (PAGE, ["https", "a.com"], ("https", "A.com"), ("ftp", "a.com"), "user"):
            if value is not None and value != ("http", "a.com"):
                self.check_field("starter", (PAGE,), starter=value)
                self.check_field("starter", (PAGE,), starter=value, frames=5, is_reading=5, by=5)
        self.assertEqual(Request((PAGE,), starter=("http", "a.com")).starter, ("http", "a.com"))

    def test_frames(self):
        self.assertEqual(len(Request((PAGE,), frames=(HERE,) * 6).frames), 6)
        for value in OTHERS + ([], [HERE], (HERE,) * 7, (HERE, None), (None, HERE), HERE, (PAGE,), {HERE: 1}):
            if value != ():
                self.check_field("frames", (PAGE,), frames=value)
                self.check_field("frames", (PAGE,), frames=value, is_reading=5, by=5)

    def test_no_starter_beside_frames(self):
        self.check_field("frames", (PAGE,), starter=HERE, frames=(HERE,))
        self.check_field("frames", (PAGE,), starter=HERE, frames=(THERE,), is_reading=5, by="script")
        self.assertEqual(Request((PAGE,), starter=HERE, frames=()).frames, ())

    def test_reading(self):
        for value in OTHERS:
            if value is not True and value is not False:
                self.check_field("is_reading", (PAGE,), is_reading=value)
                self.check_field("is_reading", (PAGE,), is_reading=value, by=5)
        self.assertIs(Request((PAGE,), frames=(HERE,), is_reading=False).is_reading, False)

    def test_by(self):
        for value in OTHERS + ("HTTP", "Script", "", ["http"], ("script",)):
            self.check_field("by", (PAGE,), by=value)

    def test_scripts(self):
        self.check_field("by", (NEWS, PAGE), by="script")
        self.check_field("by", (PAGE, PAGE), frames=(HERE,), by="script")
        self.check_field("by", (PAGE,), starter=HERE, by="script")
        self.check_field("by", (PAGE,), is_reading=False, by="script")
        self.assertEqual(Request((PAGE,), by="script").by, "script")

    def test_settings_are_passed_by_name_only(self):
        with self.assertRaises(TypeError):
            Request((PAGE,), None)

    def test_equal_by_all_five(self):
        requests = [
            Request((PAGE,)), Request((SHOP,)), Request((SHOP, PAGE)), Request((PAGE,), starter=HERE),
            Request((PAGE,), starter=THERE), Request((PAGE,), frames=(HERE,)), Request((PAGE,), frames=(HERE, HERE)),
            Request((PAGE,), is_reading=False), Request((PAGE,), by="script"),
            Request((PAGE,), frames=(HERE,), by="script"), Request((PAGE,), frames=(HERE,), is_reading=False),
        ]
        for one, other in itertools.product(range(len(requests)), repeat=2):
            self.assertIs(requests[one] == requests[other], one == other)
        self.assertIs(Request((PAGE,)) == Request((PAGE,), starter=None, frames=(), is_reading=True, by="http"), True)
        for value in OTHERS:
            self.assertIs(requests[0] == value, False)


class StepTest(unittest.TestCase):
    def test_steps(self):
        request = Request((NEWS, SHOP, PAGE), starter=THERE, is_reading=False)
        for number in (1, 2, 3):
            step = request.step(number)
            self.assertEqual(step, Request((NEWS, SHOP, PAGE)[:number], starter=THERE, is_reading=False))
            self.assertEqual(step.target, (NEWS, SHOP, PAGE)[number - 1])
        framed = Request((NEWS, PAGE), frames=(HERE, THERE))
        self.assertEqual(framed.step(number=1), Request((NEWS,), frames=(HERE, THERE)))
        script = Request((PAGE,), frames=(THERE,), by="script")
        self.assertEqual(script.step(1), script)

    def test_no_number_of_a_step(self):
        request = Request((NEWS, PAGE))
        for value in OTHERS + (3, 0, -1, -2, 10 ** 30, 1.0, "1"):
            if type(value) is not int or value not in (1, 2):
                with self.assertRaises(BadRequest) as caught:
                    request.step(value)
                self.assertEqual(caught.exception.field, "number")
        self.assertEqual(request, Request((NEWS, PAGE)))


class NearTest(unittest.TestCase):
    def check(self, request, is_near, is_lax, partition, rules=RULES):
        self.assertIs(near(rules, request), is_near)
        self.assertIs(lax(rules, request), is_lax)
        self.assertEqual(partition_of(rules, request), partition)
        self.assertIs(type(partition_of(rules, request)[1]), bool)

    def test_without_frames(self):
        here, news = (HERE, False), (THERE, False)
        self.check(Request((PAGE,)), True, True, here)
        self.check(Request((PAGE,), is_reading=False), True, True, here)
        self.check(Request((PAGE,), starter=("https", "shop.a.com")), True, True, here)
        self.check(Request((PAGE,), starter=THERE), False, True, here)
        self.check(Request((PAGE,), starter=THERE, is_reading=False), False, False, here)
        self.check(Request((SHOP, PAGE)), True, True, here)
        self.check(Request((NEWS, PAGE)), False, True, here)
        self.check(Request((NEWS, PAGE), is_reading=False), False, False, here)
        self.check(Request((PAGE, NEWS)), False, True, news)
        self.check(Request((PAGE, NEWS, SHOP)), False, True, here)
        self.check(Request((PAGE,), by="script"), True, True, here)

    def test_the_scheme_belongs_to_the_site(self):
        self.check(Request((PLAIN, PAGE)), False, True, (HERE, False))
        self.check(Request((PAGE, PLAIN)), False, True, (("http", "a.com"), False))
        self.check(Request((PAGE,), starter=("http", "a.com"), is_reading=False), False, False, (HERE, False))
        self.check(Request((PAGE,), frames=(("http", "a.com"),)), False, False, (("http", "a.com"), True))

    def test_with_frames(self):
        self.check(Request((PAGE,), frames=(("https", "www.a.com"),)), True, True, (HERE, False))
        self.check(Request((PAGE,), frames=(HERE,) * 6, is_reading=False), True, True, (HERE, False))
        self.check(Request((PAGE,), frames=(("https", "www.news.org"),)), False, False, (THERE, True))
        self.check(Request((PAGE,), frames=(THERE, HERE)), False, False, (THERE, True))
        self.check(Request((PAGE,), frames=(HERE, THERE)), False, False, (HERE, True))
        self.check(Request((PAGE,), frames=(THIRD, THERE, HERE)), False, False, (THIRD, True))
        self.check(Request((PAGE,), frames=(HERE, HERE, HERE, HERE, HERE, THERE)), False, False, (HERE, True))
        # An address of the chain makes it far, but no frame makes it foreign.
        self.check(Request((NEWS, PAGE), frames=(HERE,)), False, False, (HERE, False))
        self.check(Request((PAGE, NEWS), frames=(HERE,)), False, False, (HERE, True))
        self.check(Request((PAGE,), frames=(THERE,), by="script"), False, False, (THERE, True))
        self.check(Request((PAGE,), frames=(HERE,), by="script"), True, True, (HERE, False))

    def test_rules_count(self):
        request = Request((("https", "x.co.uk", "/"),), starter=("https", "y.co.uk"))
        self.check(request, False, True, (("https", "x.co.uk"), False))
        self.check(request, True, True, (("https", "co.uk"), False), rules=())
        numbers = Request((("http", "1.2.3.4", "/"),), frames=(("http", "1.2.3.4"),))
        self.check(numbers, True, True, (("http", "1.2.3.4"), False))
        self.check(Request((("http", "5.2.3.4", "/"),), frames=(("http", "1.2.3.4"),)), False, False,
                   (("http", "1.2.3.4"), True))

    def test_as_told(self):
        for request in all_requests():
            places = [address[:2] for address in request.addresses] + list(request.frames)
            places += [] if request.starter is None else [request.starter]
            is_near = len({site_of(RULES, place) for place in places}) == 1
            target = site_of(RULES, request.target[:2])
            frames = [site_of(RULES, frame) for frame in request.frames]
            self.check(request, is_near, is_near or not frames and request.is_reading,
                       ((frames + [target])[0], set(frames + [target]) != {target}))

    def test_errors(self):
        for function in (near, lax, partition_of):
            for rules, index in WRONG_RULES:
                for request in (Request((PAGE,)), None):
                    with self.assertRaises(BadRules) as caught:
                        function(rules, request)
                    self.assertEqual(caught.exception.index, index)
            for request in WRONG_REQUESTS:
                with self.assertRaises(BadRequest) as caught:
                    function(RULES, request=request)
                self.assertEqual(caught.exception.field, "request")
            self.assertIsNotNone(function(rules=(), request=Request((PAGE,))))


if __name__ == "__main__":
    unittest.main()
