"""Fields of a response that can be read only if there is just one of them."""

from ownanswer.dates import read_date
from ownanswer.octets import values
from ownanswer.tags import read_tag


def only_value(fields, name):
    """The value of the only field with this name, or None."""
    found = values(fields, name)
    return found[0] if len(found) == 1 else None


def only_date(fields, name, now):
    """The time of the only field with this name, or None if it cannot be read."""
    value = only_value(fields, name)
    return None if value is None else read_date(value, now)


def only_tag(fields):
    """The tag of the only ETag, or None if it cannot be read."""
    value = only_value(fields, "etag")
    return None if value is None else read_tag(value)
