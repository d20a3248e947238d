"""The keeper: it shows answers that it has kept, and asks the origin for others."""

from ownanswer.conditions import judge
from ownanswer.dates import write_date
from ownanswer.directives import directive, read_directives, seconds
from ownanswer.freshness import age, lifetime
from ownanswer.octets import values, without
from ownanswer.onlyfields import only_date, only_tag, only_value
from ownanswer.shelf import Shelf, forbids_keeping, freshened, may_keep
from ownanswer.tags import strong_match

PASSED_ON = ("range", "if-range", "if-match", "if-unmodified-since")
CONDITIONS = ("if-none-match", "if-modified-since")
SAFE = ("GET", "HEAD", "OPTIONS")
SHOWN_UNCHANGED = ("date", "etag", "last-modified", "cache-control", "vary", "expires", "age")
MOST_AGE = 2147483648


def _has_any(fields, names):
    return any([len(values(fields, name)) > 0 for name in names])


def _is_passed_on(request):
    """True if the origin must be asked the request as it is."""
    return request[0] != "GET" or _has_any(request[2], PASSED_ON) or forbids_keeping(request[2])


def _has(directives, name):
    found, _ = directive(directives, name)
    return found


def _seconds_of(directives, name):
    """The seconds of a directive, or None if it is not there or cannot be read."""
    _, value = directive(directives, name)
    return seconds(value)


def _may_be_stale(wanted, told, stale):
    """True if a copy that is stale by so many seconds may be used."""
    found, value = directive(wanted, "max-stale")
    if not found or _has(told, "must-revalidate"):
        return False
    most = seconds(value)
    return value is None or (most is not None and stale <= most)


def _is_usable(entry, request, now):
    """True if an entry may be shown without asking the origin."""
    wanted = read_directives(request[2])
    told = read_directives(entry[2][1])
    if _has(wanted, "no-cache") or _has(told, "no-cache"):
        return False
    has_age = age(entry, now)
    has_lifetime = lifetime(entry[2], entry[4])
    most = _seconds_of(wanted, "max-age")
    least = _seconds_of(wanted, "min-fresh")
    if most is not None and most < has_age:
        return False
    if least is not None and has_age + least >= has_lifetime:
        return False
    return has_lifetime > has_age or _may_be_stale(wanted, told, has_age - has_lifetime)


def _shown(entry, request, now):
    """What a request that may be answered by an entry is answered."""
    _, _, response, _, came = entry
    status, fields, body, trailers = response
    aged = without(fields, ["age"]) + (("age", str(min(age(entry, now), MOST_AGE))),)
    modified = only_date(fields, "last-modified", came)
    judged, _ = judge(request[0], request[2], only_tag(fields), modified, now)
    if judged == 304:
        return (304, tuple([(name, value) for name, value in aged if name in SHOWN_UNCHANGED]), (), ())
    return (status, aged, body, trailers)


def _condition(entry, request):
    """The field with which the origin is asked whether an entry still holds, or None."""
    if entry is None or _has_any(request[2], CONDITIONS):
        return None
    fields = entry[2][1]
    if only_tag(fields) is not None:
        return ("if-none-match", only_value(fields, "etag"))
    if only_date(fields, "last-modified", entry[4]) is not None:
        return ("if-modified-since", only_value(fields, "last-modified"))
    return None


def _has_tag_of(entry, response):
    """True if the tags of an entry and of a response match strongly."""
    kept = only_tag(entry[2][1])
    told = only_tag(response[1])
    return kept is not None and told is not None and strong_match(kept, told)


class Keeper:
    """Stands ahead of an origin, an object with `answer(request, now)`."""

    def __init__(self, origin, room):
        self._origin = origin
        self._shelf = Shelf(room)

    def ask(self, request, now):
        """(response, how): how is "kept", "checked", "fetched" or "refused"."""
        if _is_passed_on(request):
            return (self._pass_on(request, now), "fetched")
        entry = self._shelf.find(request)
        if entry is not None and _is_usable(entry, request, now):
            return (_shown(entry, request, now), "kept")
        if _has(read_directives(request[2]), "only-if-cached"):
            return ((504, (("date", write_date(now)),), (), ()), "refused")
        condition = _condition(entry, request)
        if condition is not None:
            return self._check(entry, request, condition, now)
        response = self._origin.answer(request, now)
        if response[0] == 304 and entry is not None and _has_tag_of(entry, response):
            self._shelf.put(freshened(entry, response, now, now))
        self._keep(request, response, now)
        return (response, "fetched")

    def entries(self):
        """The list of the entries, the least lately used first."""
        return self._shelf.entries()

    def _pass_on(self, request, now):
        response = self._origin.answer(request, now)
        if request[0] not in SAFE and 200 <= response[0] < 400:
            self._shelf.drop(request[1])
        return response

    def _check(self, entry, request, condition, now):
        """Asks the origin whether an entry still holds."""
        method, target, fields, body, trailers = request
        response = self._origin.answer((method, target, tuple(fields) + (condition,), body, trailers), now)
        if response[0] == 304:
            fresh = freshened(entry, response, now, now)
            self._shelf.put(fresh)
            return (_shown(fresh, request, now), "checked")
        self._keep(request, response, now)
        return (response, "fetched")

    def _keep(self, request, response, now):
        if may_keep(request, response, now):
            self._shelf.put((request[1], request[2], response, now, now))


class Told:
    """An origin for trials: it answers with the responses in order, and then with the last one again and again."""

    def __init__(self, responses):
        self._responses = tuple(responses)
        self._asked = []

    def answer(self, request, now):
        at = min(len(self._asked), len(self._responses) - 1)
        self._asked.append((request, now))
        return self._responses[at]

    def asked(self):
        """The list of the pairs (request, now) so far."""
        return list(self._asked)
