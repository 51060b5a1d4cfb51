"""Labels, hosts and address hosts, and the hosts that fit a domain."""

from crumbjar.errors import BadHost
from crumbjar.words import has_only, is_digits

MOST_OF_LABEL = 20
MOST_LABELS = 10
MOST_OF_HOST = 100
MOST_OF_NUMBER = 255
LABEL_SIGNS = "abcdefghijklmnopqrstuvwxyz0123456789-"

# Every beginning of a host becomes a host by one of these ends: a letter ends
# an open label, or, where a label of digits has no room for it, the label
# behind. No other end could do so where these cannot, as none is shorter.
ENDS = ("", "a", ".a")


def is_host(value):
    """Tell whether a value is a host, as it stands."""
    if not isinstance(value, str) or len(value) > MOST_OF_HOST:
        return False
    labels = value.split(".")
    if len(labels) > MOST_LABELS or not are_labels(labels):
        return False
    return not is_digits(labels[-1]) or _are_four_numbers(labels)


def is_address_host(value):
    """Tell whether a value is an address host."""
    return is_host(value) and is_digits(value.split(".")[-1])


def host_of(text):
    """Give the host that a text tells, in any case, with one dot at the end or without."""
    if not isinstance(text, str):
        raise BadHost(0)
    if not _tells_host(text):
        raise BadHost(_told_place(text))
    return text.removesuffix(".").lower()


def labels_of(host):
    """Give the tuple of the labels of a host."""
    need_host(host)
    return tuple(host.split("."))


def host_fits(host, domain):
    """Tell whether a host fits a domain."""
    need_host(host)
    need_host(domain)
    if host == domain:
        return True
    return not is_address_host(host) and host.endswith("." + domain)


def need_host(host):
    """Raise BadHost unless the value is a host, as it stands."""
    if not isinstance(host, str):
        raise BadHost(0)
    if not is_host(host):
        raise BadHost(_place(host))


def are_labels(texts):
    """Tell whether all of these texts are labels."""
    for text in texts:
        if not _is_label(text):
            return False
    return True


def _is_label(text):
    if len(text) > MOST_OF_LABEL or not has_only(text, LABEL_SIGNS):
        return False
    return text[0] != "-" and text[-1] != "-"


def _are_four_numbers(labels):
    for label in labels:
        if not _is_number(label):
            return False
    return len(labels) == 4


def _is_number(label):
    if not is_digits(label) or int(label) > MOST_OF_NUMBER:
        return False
    return label == "0" or label[0] != "0"


def _tells_host(text):
    return is_host(text.removesuffix(".").lower())


def _place(text):
    for many in range(1, len(text) + 1):
        if not _begins_host(text[:many]):
            return many
    return len(text) + 1


def _told_place(text):
    for many in range(1, len(text) + 1):
        begun = text[:many]
        if not _tells_host(begun) and not _begins_host(begun.lower()):
            return many
    return len(text) + 1


def _begins_host(text):
    for end in ENDS:
        if is_host(text + end):
            return True
    return False
