"""How old a kept response is, and how long it may be used."""

from ownanswer.directives import directive, read_directives, seconds
from ownanswer.octets import values
from ownanswer.onlyfields import only_date, only_value

# The statuses of which a lifetime may be guessed by Last-Modified.
GUESSED = (200, 203, 204, 300, 301, 404, 405, 410, 414, 501)


def _readable_seconds(value):
    """The seconds of a value, 0 if they cannot be read."""
    count = seconds(value)
    return 0 if count is None else count


def lifetime(response, came):
    """The seconds for which a response that came at this time may be used."""
    status, fields, _, _ = response
    found, value = directive(read_directives(fields), "max-age")
    if found:
        return _readable_seconds(value)
    date = only_date(fields, "date", came)
    if len(values(fields, "expires")) > 0:
        expires = only_date(fields, "expires", came)
        return 0 if date is None or expires is None else max(expires - date, 0)
    modified = only_date(fields, "last-modified", came)
    if status not in GUESSED or date is None or modified is None:
        return 0
    return max((date - modified) // 10, 0)


def age_when_come(response, asked, came):
    """The age that a response had when it came."""
    fields = response[1]
    date = only_date(fields, "date", came)
    by_date = 0 if date is None else max(came - date, 0)
    return max(by_date, _readable_seconds(only_value(fields, "age")) + came - asked)


def age(entry, now):
    """The age of an entry's response at this time."""
    _, _, response, asked, came = entry
    return age_when_come(response, asked, came) + now - came


def is_fresh(entry, now):
    """True if the lifetime of an entry's response is greater than its age."""
    return lifetime(entry[2], entry[4]) > age(entry, now)
