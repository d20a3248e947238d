"""What is kept, and where."""

from ownanswer.directives import directive, read_directives
from ownanswer.freshness import lifetime
from ownanswer.keys import STAR, fits, vary_names
from ownanswer.octets import values, without
from ownanswer.onlyfields import only_date, only_tag

KEPT_STATUSES = (200, 203, 300, 301, 404, 410)

# Names of which the old fields stay when a copy is freshened.
BODY_NAMES = ("content-length", "content-range", "content-encoding", "content-type")


def forbids_keeping(fields):
    """True if a message with these fields has the directive no-store."""
    found, _ = directive(read_directives(fields), "no-store")
    return found


def can_be_checked(response, came):
    """True if the response has an ETag or a Last-Modified that can be read."""
    return only_tag(response[1]) is not None or only_date(response[1], "last-modified", came) is not None


def may_keep(request, response, came):
    """True if a response to a request may be kept."""
    if request[0] != "GET" or len(values(request[2], "range")) > 0 or response[0] not in KEPT_STATUSES:
        return False
    if forbids_keeping(request[2]) or forbids_keeping(response[1]) or STAR in vary_names(response):
        return False
    return lifetime(response, came) > 0 or can_be_checked(response, came)


def freshened(entry, response, asked, came):
    """The entry that a response of status 304 leaves."""
    target, fields, old, _, _ = entry
    new_fields = without(response[1], BODY_NAMES)
    old_fields = without(old[1], [name for name, _ in new_fields])
    return (target, fields, (old[0], old_fields + new_fields, old[2], old[3]), asked, came)


def _date(entry):
    """The Date of an entry's response, 0 if it cannot be read."""
    date = only_date(entry[2][1], "date", entry[4])
    return 0 if date is None else date


class Shelf:
    """Keeps so many entries as it has room for."""

    def __init__(self, room):
        self._room = room
        # Pairs (number of the put, entry), the least lately used first.
        self._rows = []
        self._puts = 0

    def put(self, entry):
        """Keeps an entry in the place of those that fit its request."""
        request = ("GET", entry[0], entry[1], (), ())
        kept = [row for row in self._rows if not fits(row[1], request)]
        self._puts += 1
        kept.append((self._puts, entry))
        self._rows = kept[1:] if len(kept) > self._room else kept

    def find(self, request):
        """The fitting entry with the latest Date, of equals the last put, or None; it counts as used."""
        best = None
        for row in self._rows:
            if fits(row[1], request) and (best is None or (_date(row[1]), row[0]) > (_date(best[1]), best[0])):
                best = row
        if best is None:
            return None
        self._rows = [row for row in self._rows if row[0] != best[0]] + [best]
        return best[1]

    def drop(self, target):
        """Takes all entries of a target away."""
        self._rows = [row for row in self._rows if tuple(row[1][0]) != tuple(target)]

    def entries(self):
        """The list of the entries, the least lately used first."""
        return [entry for _, entry in self._rows]
