"""The conditions that a request makes about what is there."""

from ownanswer.dates import read_date
from ownanswer.ranges import read_ranges
from ownanswer.tags import STAR, read_tag, read_tags, strong_match, weak_match
from ownanswer.tokens import join_values

FAILED = (412, True)
UNCHANGED = (304, True)
READING = ("GET", "HEAD")


def _joined_tags(fields, name):
    """The tags of a field, the star, or None if it is not there or cannot be read."""
    value = join_values(fields, name)
    return None if value is None else read_tags(value)


def _joined_date(fields, name, now):
    """The time of a field, or None if it is not there or cannot be read."""
    value = join_values(fields, name)
    return None if value is None else read_date(value, now)


def _matches(tags, tag, strong):
    """True if the star or one of the tags means what is there."""
    if tags is None or tag is None:
        return False
    if tags == STAR:
        return True
    return any([strong_match(wanted, tag) if strong else weak_match(wanted, tag) for wanted in tags])


def _fails(fields, tag, modified, now):
    """True if If-Match or, without it, If-Unmodified-Since does not hold."""
    if join_values(fields, "if-match") is not None:
        return not _matches(_joined_tags(fields, "if-match"), tag, True)
    limit = _joined_date(fields, "if-unmodified-since", now)
    return limit is not None and modified is not None and modified > limit


def _is_known(method, fields, tag, modified, now):
    """True if If-None-Match or, without it, If-Modified-Since says that what is there is known."""
    tags = _joined_tags(fields, "if-none-match")
    if tags is not None:
        return _matches(tags, tag, False)
    limit = _joined_date(fields, "if-modified-since", now)
    return method in READING and limit is not None and modified is not None and modified <= limit


def _wants_part(method, fields, tag, modified, now):
    """True if ranges of the body are wanted."""
    value = join_values(fields, "range")
    # Whether ranges can be read at all does not depend on the size.
    if method != "GET" or value is None or read_ranges(value, 0) is None:
        return False
    state = join_values(fields, "if-range")
    if state is None:
        return True
    wanted = read_tag(state)
    if wanted is not None:
        return tag is not None and strong_match(wanted, tag)
    date = read_date(state, now)
    return date is not None and date == modified


def judge(method, fields, tag, modified, now):
    """(status, whole): 412, 304, or 0 if the request goes on; whole is False if ranges are wanted."""
    if _fails(fields, tag, modified, now):
        return FAILED
    if _is_known(method, fields, tag, modified, now):
        return UNCHANGED if method in READING else FAILED
    return (0, not _wants_part(method, fields, tag, modified, now))
