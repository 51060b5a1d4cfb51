"""Requests: their parts, what they are to the site of their target, and their partitions."""

from crumbjar.addresses import is_address, is_origin, is_safe, origin_of
from crumbjar.errors import BadRequest
from crumbjar.suffixes import known_family, need_rules
from crumbjar.words import is_integer

MOST_ADDRESSES = 10
MOST_FRAMES = 6
HTTP = "http"
SCRIPT = "script"


class Request:
    """A chain of addresses that is asked for, by whom, and within which frames."""

    def __init__(self, addresses, *, starter=None, frames=(), is_reading=True, by="http"):
        _need("addresses", _are_addresses(addresses))
        _need("starter", starter is None or is_origin(starter))
        _need("frames", _are_frames(frames) and (starter is None or len(frames) == 0))
        _need("is_reading", isinstance(is_reading, bool))
        _need("by", isinstance(by, str) and by in (HTTP, SCRIPT))
        _need("by", by == HTTP or len(addresses) == 1 and starter is None and is_reading)
        self.addresses = addresses
        self.starter = starter
        self.frames = frames
        self.is_reading = is_reading
        self.by = by
        self.target = addresses[-1]

    def __eq__(self, other):
        return isinstance(other, Request) and _parts_of(self) == _parts_of(other)

    def step(self, number):
        """Give the request with the first so many addresses."""
        _need("number", is_integer(number) and 1 <= number <= len(self.addresses))
        return Request(
            self.addresses[:number],
            starter=self.starter,
            frames=self.frames,
            is_reading=self.is_reading,
            by=self.by,
        )


class Traits:
    """All that rules ask of a request, worked out once for rules and a request that are right."""

    def __init__(self, rules, request):
        site = _site(rules, request.target)
        self.host = request.target[1]
        self.path = request.target[2]
        self.family = site[1]
        self.is_safe = is_safe(origin_of(request.target))
        self.is_script = request.by == SCRIPT
        self.has_frames = len(request.frames) > 0
        self.is_near = all([_site(rules, place) == site for place in _places(request)])
        self.is_lax = self.is_near or not self.has_frames and request.is_reading
        frame_sites = [_site(rules, frame) for frame in request.frames]
        top = frame_sites[0] if self.has_frames else site
        self.partition = (top, any([other != site for other in frame_sites]))


def near(rules, request):
    """Tell whether a request is near: all that it touches has one site."""
    return _checked_traits(rules, request).is_near


def lax(rules, request):
    """Tell whether a request is lax: near, or reading the top page."""
    return _checked_traits(rules, request).is_lax


def partition_of(rules, request):
    """Give the partition of a request."""
    return _checked_traits(rules, request).partition


def need_request(value):
    """Raise BadRequest unless the value is a request."""
    if not isinstance(value, Request):
        raise BadRequest("request")


def _checked_traits(rules, request):
    need_rules(rules)
    need_request(request)
    return Traits(rules, request)


def _need(field, is_right):
    if not is_right:
        raise BadRequest(field)


def _parts_of(request):
    return (request.addresses, request.starter, request.frames, request.is_reading, request.by)


def _are_addresses(value):
    if not isinstance(value, tuple) or not 1 <= len(value) <= MOST_ADDRESSES:
        return False
    return all([is_address(address) for address in value])


def _are_frames(value):
    if not isinstance(value, tuple) or len(value) > MOST_FRAMES:
        return False
    return all([is_origin(frame) for frame in value])


def _places(request):
    starters = () if request.starter is None else (request.starter,)
    return (*request.addresses, *starters, *request.frames)


def _site(rules, place):
    # A place is an origin or an address, which begins with its origin.
    return (place[0], known_family(rules, place[1]))
