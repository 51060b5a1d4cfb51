"""The errors of the package."""


class CrumbError(ValueError):
    """A value is not what it has to be; never raised itself."""


class AbsentError(LookupError):
    """What was asked for is not there; never raised itself."""


class BadHost(CrumbError):
    """A text is no host; the place of the first wrong sign, 0 for what is no string."""

    def __init__(self, place):
        self.place = place


class BadRules(CrumbError):
    """Rules for suffixes are none; the index of the first wrong item, None for no tuple."""

    def __init__(self, index):
        self.index = index


class BadOrigin(CrumbError):
    """A value is no origin."""

    def __init__(self, given):
        self.given = given


class BadAddress(CrumbError):
    """A text is no address; a place as in BadHost, None for what is no address tuple."""

    def __init__(self, place):
        self.place = place


class BadPath(CrumbError):
    """A value is no path."""

    def __init__(self, given):
        self.given = given


class BadTick(CrumbError):
    """A value is no tick, or no tick that can stand here."""

    def __init__(self, given):
        self.given = given


class BadLine(CrumbError):
    """A line, or a part of one, is none."""

    def __init__(self, field):
        self.field = field


class BadRequest(CrumbError):
    """A request, or a part of one, is none."""

    def __init__(self, field):
        self.field = field


class BadCrumb(CrumbError):
    """A crumb, or a part of one, is none."""

    def __init__(self, field):
        self.field = field


class BadLimit(CrumbError):
    """A limit of a jar is none."""

    def __init__(self, field):
        self.field = field


class BadCrumbs(CrumbError):
    """Crumbs cannot be in one jar; the index of the first wrong one, None for no tuple."""

    def __init__(self, index):
        self.index = index


class BadDevice(CrumbError):
    """A value is no device."""

    def __init__(self, given):
        self.given = given


class BadLedger(CrumbError):
    """A value is no ledger, or no part of one."""

    def __init__(self, given):
        self.given = given


class BadJar(CrumbError):
    """A value is no jar."""

    def __init__(self, given):
        self.given = given


class BadText(CrumbError):
    """A text is none that was written; the number of its first wrong line, 0 for no string."""

    def __init__(self, line):
        self.line = line


class BadDeeds(CrumbError):
    """Deeds are none; the index of the first wrong one, None for no list or tuple."""

    def __init__(self, index):
        self.index = index


class Unlike(CrumbError):
    """Two jars cannot be compared, as this field differs."""

    def __init__(self, field):
        self.field = field


class BadTable(CrumbError):
    """A table is none; the index of the first wrong item, None for no tuple."""

    def __init__(self, index):
        self.index = index


class BadRows(CrumbError):
    """Rows of a browser are none; the index of the first wrong one, None for no tuple."""

    def __init__(self, index):
        self.index = index


class BadShelf(CrumbError):
    """A shelf is none; the index of the first wrong row, None for no shelf at all."""

    def __init__(self, index):
        self.index = index


class BadWish(CrumbError):
    """A wish is none; the index of the first wrong pair, None for no wish at all."""

    def __init__(self, index):
        self.index = index


class NoPage(AbsentError):
    """There is no page whose link could be followed."""


class NoRow(AbsentError):
    """No row has this number."""

    def __init__(self, number):
        self.number = number


class NoWish(AbsentError):
    """A wish is not granted; the word that tells why."""

    def __init__(self, given):
        self.given = given
