"""The fixed rows of the table."""

from ownanswer.octets import to_octets

FIXED = (
    (":method", "GET"),
    (":method", "PUT"),
    (":method", "POST"),
    (":path", "/"),
    (":scheme", "http"),
    (":authority", ""),
    (":status", "200"),
    (":status", "304"),
    (":status", "404"),
    ("accept", ""),
    ("accept-language", ""),
    ("age", ""),
    ("cache-control", ""),
    ("content-length", ""),
    ("content-type", ""),
    ("date", ""),
    ("etag", ""),
    ("host", ""),
    ("if-none-match", ""),
    ("last-modified", ""),
    ("location", ""),
    ("range", ""),
    ("vary", ""),
)


def fixed_row(number):
    """The pair of octets of the fixed row with this number, or None."""
    if not 1 <= number <= len(FIXED):
        return None
    name, value = FIXED[number - 1]
    return (to_octets(name), to_octets(value))
