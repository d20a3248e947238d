"""Pages and their variants."""

from ownanswer.dates import write_date
from ownanswer.octets import is_token, lower
from ownanswer.tags import is_tag_text, write_tag
from ownanswer.targets import SLASH, clean_path

# The last second of the year 9999.
LAST_TIME = 253402300799


def _is_number(worth, least, most):
    """True for an integer in these bounds; True and False are none."""
    return isinstance(worth, int) and not isinstance(worth, bool) and least <= worth and (most is None or worth <= most)


def _is_octets(row):
    return isinstance(row, tuple) and all([_is_number(octet, 0, 255) for octet in row])


def _is_small_token(text):
    return is_token(text) and lower(text) == text


def is_kind(text):
    """True for a text `a/b` of two lower-case tokens."""
    if not isinstance(text, str):
        return False
    left, _, right = text.partition("/")
    return _is_small_token(left) and _is_small_token(right)


def is_language(text):
    """True for a lower-case text of tokens with `-` between, and for the empty text."""
    if not isinstance(text, str):
        return False
    return text == "" or all([_is_small_token(part) for part in text.split("-")])


def _is_variant(variant):
    if not isinstance(variant, tuple) or len(variant) != 5:
        return False
    kind, language, body, tag, modified = variant
    if not is_kind(kind) or not is_language(language) or not _is_octets(body):
        return False
    return isinstance(tag, str) and is_tag_text(tag) and _is_number(modified, 0, LAST_TIME)


def is_page(page):
    """True if the path, the number of seconds and the variants are those of a page."""
    if not isinstance(page, tuple) or len(page) != 3:
        return False
    path, keep, variants = page
    if not _is_octets(path) or path[:1] != (SLASH,) or clean_path(path) != path:
        return False
    if not _is_number(keep, -2, None) or not isinstance(variants, tuple) or len(variants) == 0:
        return False
    if not all([_is_variant(variant) for variant in variants]):
        return False
    return all([find_variant(variants, variant[:2]) == at for at, variant in enumerate(variants)])


def find_variant(variants, offer):
    """The index of the variant with this offer, or -1."""
    for at, variant in enumerate(variants):
        if variant[:2] == offer:
            return at
    return -1


def state_fields(variant):
    """The fields that tell the state of a variant."""
    return (("etag", write_tag((False, variant[3]))), ("last-modified", write_date(variant[4])))


def new_page(path):
    """A page without variants, of which copies must be checked."""
    return (path, -2, ())


def _keep_rule(keep):
    if keep == -1:
        return "no-store"
    return "no-cache" if keep == -2 else f"max-age={keep}"


def copy_fields(page):
    """The fields that say how copies of a page may be used, and that it has ranges."""
    rule = ("cache-control", _keep_rule(page[1]))
    ranged = ("accept-ranges", "bytes")
    return (rule, ("vary", "accept, accept-language"), ranged) if len(page[2]) > 1 else (rule, ranged)


def page_fields(page, variant):
    """The fields of a whole answer, behind its date."""
    kind = ("content-type", variant[0])
    language = ("content-language", variant[1])
    shown = (kind,) if variant[1] == "" else (kind, language)
    return state_fields(variant) + copy_fields(page) + shown
