"""Which requests a kept response may answer."""

from ownanswer.octets import lower, values
from ownanswer.tokens import join_values, split_list

STAR = "*"


def vary_names(response):
    """The elements of the Vary values in lower case, in order; the star alone if they cannot be cut."""
    names = []
    for value in values(response[1], "vary"):
        parts = split_list(value)
        if parts is None:
            return [STAR]
        names.extend([lower(part) for part in parts])
    return names


def _comparable(fields, name):
    """The joined values of a name without blanks around commas, as they are if they cannot be cut, or None."""
    joined = join_values(fields, name)
    parts = None if joined is None else split_list(joined)
    return joined if parts is None else parts


def fits(entry, request):
    """True if the entry's response may answer the request."""
    target, fields, response, _, _ = entry
    names = vary_names(response)
    if tuple(target) != tuple(request[1]) or STAR in names:
        return False
    return all([_comparable(fields, name) == _comparable(request[2], name) for name in ["host"] + names])
