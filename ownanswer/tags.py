"""Tags: what tells one state of a body from another."""

from ownanswer.octets import is_value_sign
from ownanswer.tokens import BACKSLASH, QUOTE, split_list

STAR = "*"
WEAK = "W/"


def is_tag_text(text):
    """True for the signs that may stand inside of a tag."""
    fitting = [sign > " " and sign != QUOTE and sign != BACKSLASH and is_value_sign(ord(sign)) for sign in text]
    return all(fitting)


def read_tag(text):
    """The tag (weak, text), or None."""
    weak = text.startswith(WEAK)
    rest = text[len(WEAK):] if weak else text
    if len(rest) < 2 or rest[0] != QUOTE or rest[-1] != QUOTE:
        return None
    return (weak, rest[1:-1]) if is_tag_text(rest[1:-1]) else None


def write_tag(tag):
    weak, text = tag
    return (WEAK if weak else "") + QUOTE + text + QUOTE


def read_tags(value):
    """The list of at least one tag, the star, or None."""
    if value == STAR:
        return STAR
    parts = split_list(value)
    if parts is None or len(parts) == 0:
        return None
    tags = [read_tag(part) for part in parts]
    return None if None in tags else tags


def strong_match(a, b):
    """True if the texts are equal and neither tag is weak."""
    return a[1] == b[1] and not a[0] and not b[0]


def weak_match(a, b):
    """True if the texts are equal."""
    return a[1] == b[1]
