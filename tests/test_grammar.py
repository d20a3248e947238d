"""Rows of messages that were changed at random, read by a second way of reading.

The second way knows whole messages only. So a row without a fault must be a
beginning of whole ones, which the suffixes of good rows show, and a row with
a fault must have no whole ones behind that place.
"""

import random
import re
import unittest

from support import octets, string, told_alike

TOKEN = "[-!#$&'*+.^_`|~0-9A-Za-z]"
VALUE = "[\t -$&-~]"
LINES = f"(?:{TOKEN}{{1,40}}:{VALUE}*\r\n)*"
ASK = re.compile(f"(?:\r\n){{0,2}}(?!CONNECT ){TOKEN}{{1,20}} [!-~]{{1,1000}} HTTP/1[.]([01])\r\n({LINES})\r\n")
REPLY = re.compile(f"HTTP/1[.]([01]) (?!101)([1-5][0-9][0-9]) {VALUE}{{0,200}}\r\n({LINES})\r\n")
CHUNK = re.compile(f"([0-9a-fA-F]{{1,4}})(?:;{VALUE}{{0,200}})?\r\n")
END_OF_CHUNKS = re.compile(f"({LINES})\r\n")
HOST = re.compile("[a-zA-Z0-9.:_\\[\\]-]{0,1000}")


def fields_of(text):
    """The fields of field lines, or None if a value is too long."""
    fields = []
    for row in text.split("\r\n")[:-1]:
        name, value = row.split(":", 1)
        name = name.lower()
        if name not in ("host", "content-length", "transfer-encoding") and len(value) > 1000:
            return None
        fields.append((name, value.strip(" \t")))
    return fields


def of_name(fields, name):
    return [value for key, value in fields if key == name]


def fields_fit(fields, minor, status):
    """[2.5] for whole heads; status is None for requests."""
    sizes = of_name(fields, "content-length")
    codings = of_name(fields, "transfer-encoding")
    hosts = of_name(fields, "host")
    if len(sizes) + len(codings) > 1 or (codings and minor == 0):
        return False
    if (sizes or codings) and status is not None and (status < 200 or status == 204):
        return False
    if status is None and (len(hosts) > 1 or len(hosts) < minor or not all(HOST.fullmatch(host) for host in hosts)):
        return False
    return all(re.fullmatch("[0-9]{1,5}", size) for size in sizes) and all(word.lower() == "chunked" for word in codings)


def chunks_end(text, at):
    """The place behind a chunked body, or None."""
    total = 0
    while True:
        found = CHUNK.match(text, at)
        if found is None:
            return None
        size = int(found.group(1), 16)
        total += size
        at = found.end()
        if size == 0:
            break
        if total > 99999 or text[at + size:at + size + 2] != "\r\n":
            return None
        at += size + 2
    found = END_OF_CHUNKS.match(text, at)
    if found is None:
        return None
    fields = fields_of(found.group(1))
    barred = ("content-length", "transfer-encoding", "host", "trailer", "connection")
    if fields is None or any(name in barred or len(value) > 1000 for name, value in fields):
        return None
    return found.end()


def one_end(text, at, side, method):
    """(the place behind one message, if it is the last, if it is interim), or None."""
    found = (ASK if side == "ask" else REPLY).match(text, at)
    if found is None:
        return None
    minor = int(found.group(1))
    status = None if side == "ask" else int(found.group(2))
    fields = fields_of(found.group(2 if side == "ask" else 3))
    if fields is None or not fields_fit(fields, minor, status):
        return None
    interim = side == "reply" and status < 200
    members = [part.strip(" \t").lower() for value in of_name(fields, "connection") for part in value.split(",")]
    last = not interim and (minor == 0 or "close" in members)
    if side == "reply" and (interim or method == "HEAD" or status in (204, 304)):
        return (found.end(), last, interim)
    if of_name(fields, "transfer-encoding"):
        end = chunks_end(text, found.end())
        return None if end is None else (end, last, interim)
    sizes = of_name(fields, "content-length")
    if not sizes and side == "reply":
        return (len(text), True, interim)
    end = found.end() + (int(sizes[0]) if sizes else 0)
    return None if end > len(text) else (end, last, interim)


def is_whole(text, side, methods):
    """True if the text is a row of whole messages, one line end ahead of the next request at most."""
    at = 0
    answered = 0
    while at < len(text):
        if side == "reply" and answered == len(methods):
            return False
        found = one_end(text, at, side, methods[answered] if side == "reply" else "")
        if found is None:
            return False
        at, last, interim = found
        answered += 0 if interim else 1
        if last:
            return at == len(text)
    return True


ASKS = (
    "GET /a HTTP/1.1\r\nHost: h\r\n\r\n",
    "\r\n\r\nPUT * HTTP/1.1\r\nhost:a:80\r\nContent-Length: 3 \r\nA:b\r\n\r\nabc",
    "POST / HTTP/1.1\r\nhost: \r\nTransfer-Encoding: Chunked\r\n\r\n2\r\nab\r\n0A;x=y\r\n0123456789\r\n0\r\nt: v\r\n\r\n",
    "CONNECTS x HTTP/1.0\r\nconnection: a\r\n\r\n",
    "D / HTTP/1.1\r\nconnection: a,close\r\nhost: h\r\n\r\n",
)
REPLIES = (
    "HTTP/1.1 200 OK\r\nContent-Length: 3\r\n\r\nabc",
    "HTTP/1.1 100 \r\na: b\r\n\r\nHTTP/1.1 404 No\r\ntransfer-encoding: chunked\r\n\r\n1\r\na\r\n0\r\n\r\n",
    "HTTP/1.1 304 \r\nhost: a b\r\ncontent-length: 9\r\n\r\n",
    "HTTP/1.1 204 None\r\n\r\n",
    "HTTP/1.0 200 x\r\n\r\nabc",
    "HTTP/1.1 500 \r\nconnection: close\r\ncontent-length: 1\r\n\r\na",
)
SIGNS = "\r\n :;,%0159aAfFhHtTcC/*.\t\x00\x7f\x80"


class GrammarTest(unittest.TestCase):
    def changed(self, chance, good):
        text = "".join(chance.choice(good) for _ in range(chance.randrange(1, 3)))
        for _ in range(chance.randrange(3)):
            at = chance.randrange(len(text))
            deed = chance.randrange(3)
            sign = chance.choice(SIGNS)
            text = text[:at] + (sign if deed < 2 else "") + text[at + (1 if deed > 0 else 0):]
        return text

    def ends_of(self, good):
        """Many ends of whole rows, the short ones first."""
        ends = {row[at:] for row in good for at in range(len(row) + 1)}
        heads = {end[:end.index("\r\n\r\n") + 4] for end in ends if "\r\n\r\n" in end}
        heads |= {head[:-2] + "Host:\r\n\r\n" for head in heads}
        ends |= {head + body for head in heads for body in ("", "a", "ab", "abc", "0\r\n\r\n")}
        # Sizes may have been made greater by a change.
        ends |= {"x" * many + "\r\n0\r\n\r\n" for many in range(1, 100)} | {"x" * many for many in range(2, 100)}
        return sorted(ends, key=lambda end: (len(end), end))

    def has_end(self, text, side, methods, ends):
        return any(is_whole(text + end, side, methods) for end in ends)

    def check(self, side, good, methods, seed):
        chance = random.Random(seed)
        ends = self.ends_of(good)
        for _ in range(250):
            text = self.changed(chance, good)
            events = told_alike(self, side, octets(text), methods)
            place = len(text)
            if events and events[-1][0] == "fault":
                place = events[-1][2]
                beyond = text[:place + 1]
                self.assertFalse(self.has_end(beyond, side, methods, ends), (beyond, events))
            if not self.has_end(text[:place], side, methods, ends):
                self.assertTrue(self.is_far_from_its_end(text[:place]), (text[:place], events))

    def is_far_from_its_end(self, text):
        """True for sizes that no end above is long enough for."""
        return re.search("(?i)content-length: *[0-9]{2}|\r\n[0-9a-f]{2,4}(;[^\r]*)?\r?(\n.*)?$", text, re.S) is not None

    def test_requests(self):
        self.check("ask", ASKS, (), 41)

    def test_responses(self):
        self.check("reply", REPLIES, ("GET", "GET"), 42)
        self.check("reply", REPLIES, ("HEAD", "PUT"), 43)

    def test_the_second_way_reads_the_good_rows(self):
        for row in ASKS:
            self.assertTrue(is_whole(row, "ask", ()))
        for row in REPLIES:
            self.assertTrue(is_whole(row, "reply", ("GET",)))
        self.assertFalse(is_whole(string(octets("GET / HTTP/1.1\r\n\r\n")), "ask", ()))


if __name__ == "__main__":
    unittest.main()
