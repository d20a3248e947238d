"""The house: it keeps pages and answers requests."""

from ownanswer.choice import choose
from ownanswer.conditions import judge
from ownanswer.dates import write_date
from ownanswer.octets import values
from ownanswer.pages import copy_fields, find_variant, is_kind, is_language, new_page, page_fields, state_fields
from ownanswer.partbody import free_mark, part_body
from ownanswer.ranges import joined_ranges, read_ranges, write_content_range
from ownanswer.targets import clean_path, read_host, read_target
from ownanswer.tokens import join_values

METHODS = ("GET", "HEAD", "PUT", "DELETE", "POST", "OPTIONS")
ALLOW = ("allow", "GET, HEAD, PUT, DELETE, POST, OPTIONS")
MOST_BODY = 20000


def _response(status, now, fields, body):
    return (status, (("date", write_date(now)),) + fields, body, ())


def _empty(status, now):
    """An answer with a date alone."""
    return _response(status, now, (), ())


def _has_host(fields):
    """True if there is exactly one Host field, and it can be read."""
    hosts = values(fields, "host")
    return len(hosts) == 1 and read_host(hosts[0]) is not None


def _first_steps(method, target, fields):
    """(status, path): a status that answers at once, or 0 and the clean path that is asked for."""
    if method not in METHODS:
        return (501, None)
    form = read_target(method, target)
    # Of these methods none has the form "authority", and a path that was read has a clean form.
    if form is None or (form[0] != "absolute" and not _has_host(fields)):
        return (400, None)
    if form[0] == "star" or method == "OPTIONS":
        return (204, None)
    return (0, clean_path(form[1] if form[0] == "origin" else form[3]))


def _judged(method, fields, variant, now):
    """What `judge` says about a variant, or about nothing with None."""
    if variant is None:
        return judge(method, fields, None, None, now)
    return judge(method, fields, (False, variant[3]), variant[4], now)


def _put_offer(fields):
    """The offer that the body of a PUT is for, or None."""
    kinds = values(fields, "content-type")
    languages = values(fields, "content-language")
    if len(kinds) != 1 or not is_kind(kinds[0]) or len(languages) > 1:
        return None
    language = languages[0] if len(languages) == 1 else ""
    return (kinds[0], language) if is_language(language) else None


def _ranged(page, variant, ranges, now):
    """The answer with ranges of a variant's body."""
    kind, _, body, _, _ = variant
    if len(ranges) == 0:
        return _response(416, now, (("content-range", write_content_range(None, None, len(body))),), ())
    joined = joined_ranges(ranges)
    if len(joined) == 1:
        first, last = joined[0]
        place = (("content-range", write_content_range(first, last, len(body))),)
        return _response(206, now, page_fields(page, variant) + place, body[first:last + 1])
    mark = free_mark(body)
    shown = (f"multipart/byteranges; boundary={mark}",) + variant[1:]
    return _response(206, now, page_fields(page, shown), part_body(kind, body, joined, mark))


def _read(page, variant, fields, whole, now):
    """The answer to GET."""
    body = variant[2]
    ranges = None if whole else read_ranges(join_values(fields, "range"), len(body))
    if ranges is None:
        return _response(200, now, page_fields(page, variant), body)
    return _ranged(page, variant, ranges, now)


class House:
    """Pages, and the answers to requests for them."""

    def __init__(self, pages):
        self._pages = {page[0]: page for page in pages}
        self._changes = 0

    def pages(self):
        """The pages as they are, ascending by path."""
        return tuple([self._pages[path] for path in sorted(self._pages)])

    def changes(self):
        """How many requests have added or changed a variant."""
        return self._changes

    def answer(self, request, now):
        """The response; the pages are changed as the request asks."""
        method, target, fields, body, _ = request
        status, path = _first_steps(method, target, fields)
        if status == 204 or status == 501:
            return _response(status, now, (ALLOW,), ())
        if status != 0:
            return _empty(status, now)
        page = self._pages.get(path)
        if method == "PUT":
            return self._put(path, page, fields, body, now)
        if page is None:
            status, _ = _judged(method, fields, None, now)
            return _empty(404 if status == 0 else status, now)
        at = choose(fields, [variant[:2] for variant in page[2]])
        if at < 0:
            return _empty(406, now)
        return self._chosen(page, at, request, now)

    def _chosen(self, page, at, request, now):
        """The answer of a variant of a page to GET, HEAD, DELETE or POST."""
        method, _, fields, body, _ = request
        variant = page[2][at]
        status, whole = _judged(method, fields, variant, now)
        if status == 304:
            return _response(304, now, state_fields(variant) + copy_fields(page), ())
        if status != 0:
            return _empty(status, now)
        if method == "DELETE":
            del self._pages[page[0]]
            return _empty(204, now)
        if method == "POST":
            return self._write(page, at, variant[:2], variant[2] + body, now)
        response = _read(page, variant, fields, whole, now)
        return response if method == "GET" else (response[0], response[1], (), ())

    def _put(self, path, page, fields, body, now):
        if len(values(fields, "content-range")) > 0:
            return _empty(400, now)
        offer = _put_offer(fields)
        if offer is None:
            return _empty(415, now)
        found = new_page(path) if page is None else page
        at = find_variant(found[2], offer)
        status, _ = _judged("PUT", fields, None if at < 0 else found[2][at], now)
        if status != 0:
            return _empty(status, now)
        return self._write(found, at, offer, body, now)

    def _write(self, page, at, offer, body, now):
        """Give the variant at this index the body, or add one for -1."""
        if len(body) > MOST_BODY:
            return _empty(413, now)
        path, keep, variants = page
        self._changes += 1
        variant = offer + (body, f"v{self._changes}", now)
        if at < 0:
            changed = variants + (variant,)
        else:
            changed = variants[:at] + (variant,) + variants[at + 1:]
        self._pages[path] = (path, keep, changed)
        return _response(201 if at < 0 else 204, now, state_fields(variant), ())
