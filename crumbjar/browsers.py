"""Browsers: visits to the pages of a table, and the rows that tell what was sent and given."""

from crumbjar.addresses import is_address, origin_of
from crumbjar.asking import pairs_sent, triple_given
from crumbjar.errors import BadAddress, BadTick, NoPage
from crumbjar.jars import Jar
from crumbjar.requests import MOST_ADDRESSES, SCRIPT, Request
from crumbjar.suffixes import need_rules
from crumbjar.tables import FRAME, PICTURE, WRITE, answer_of, check_table, texts_given, with_number
from crumbjar.words import is_tick

MOST_REQUESTS = 100
MOST_FRAMES_OF_PAGE = 5


class Browser:
    """A jar, the pages that are shown, and the rows of all that was asked."""

    def __init__(self, rules, table, *, most_of_family=20, most=60):
        need_rules(rules)
        check_table(table)
        self._jar = Jar(rules, most_of_family=most_of_family, most=most)
        self._table = table
        self._rows = []
        self.tick = 0
        self.pages = ()

    def __len__(self):
        return len(self._rows)

    def rows(self):
        """Give all rows, one after the other."""
        for row in list(self._rows):
            yield row

    def visit(self, address, tick, *, is_reading=True):
        """Load a page, and give how many requests were made."""
        self._need(address, tick)
        return self._load(Request((address,), is_reading=is_reading), tick)

    def follow(self, address, tick, *, is_reading=True):
        """Load a page by a link of the last top page, and give how many requests were made."""
        if self.pages == ():
            raise NoPage()
        self._need(address, tick)
        starter = origin_of(self.pages[0][1])
        return self._load(Request((address,), starter=starter, is_reading=is_reading), tick)

    def close(self, tick):
        """End the session."""
        self._jar.close(tick)
        self._begin(tick)
        self._add("close", None, (), ())

    def _need(self, address, tick):
        if not is_address(address):
            raise BadAddress(None)
        if not is_tick(tick) or tick < self.tick:
            raise BadTick(tick)

    def _begin(self, tick):
        self.tick = tick
        self.pages = ()

    def _load(self, first, tick):
        self._begin(tick)
        made = 0
        # What is still to be done, the next job last: requests of chains, and
        # what the scripts of pages write.
        jobs = [(FRAME, first, "")]
        while jobs != []:
            kind, request, text = jobs.pop()
            if kind == WRITE:
                self._write(request, text)
                continue
            if made == MOST_REQUESTS:
                break
            made += 1
            jobs.extend(self._get(kind, request)[::-1])
        return made

    def _get(self, kind, request):
        """Make a request, and give the jobs that follow from its answer, in order."""
        answer = answer_of(self._table, request.target)
        number = len(self._rows) + 1
        sent = pairs_sent(self._jar, request, self.tick)
        names = tuple([key[-1] for key, _ in sent])
        texts = texts_given(answer, number, names)
        given = [triple_given(self._jar, request, text, self.tick) for text in texts]
        self._add("get", request, sent, tuple(given))
        goal = answer[1]
        if goal is None:
            return self._page_jobs(request, answer[2]) if kind == FRAME else []
        if len(request.addresses) == MOST_ADDRESSES:
            return []
        return [(kind, _further(request, goal), "")]

    def _page_jobs(self, request, parts):
        """Add the page that a request loaded, and give the jobs of its parts."""
        frames = request.frames
        address = request.target
        self.pages += ((len(frames), address),)
        inner = (*frames, origin_of(address))
        jobs = []
        for kind, worth in parts:
            if kind == WRITE:
                jobs.append((kind, Request((address,), frames=frames, by=SCRIPT), worth))
            elif kind == PICTURE or len(frames) < MOST_FRAMES_OF_PAGE:
                jobs.append((kind, Request((worth,), frames=inner), ""))
        return jobs

    def _write(self, request, text):
        told = with_number(text, len(self._rows) + 1)
        self._add("write", request, (), (triple_given(self._jar, request, told, self.tick),))

    def _add(self, kind, request, sent, given):
        self._rows.append((len(self._rows) + 1, self.tick, kind, request, sent, given))


def _further(request, goal):
    return Request((*request.addresses, goal), starter=request.starter, frames=request.frames)
