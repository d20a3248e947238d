"""The plain form of messages: what both versions carry alike."""

from ownanswer.house import House
from ownanswer.lengths import has_bare_status
from ownanswer.octets import without

HOST = "host"
LEFT_OUT = ("content-length", "transfer-encoding", "connection", "keep-alive", "proxy-connection", "upgrade", "te")


def plain_request(request):
    """The request without fields of its line and without trailers, host in front."""
    method, target, fields, body, _ = request
    kept = without(fields, LEFT_OUT)
    hosts = tuple([(name, value) for name, value in kept if name == HOST])
    return (method, target, hosts + without(kept, [HOST]), body, ())


def plain_response(response, method):
    """The response to a request with this method without fields of its line and without trailers."""
    status, fields, body, _ = response
    is_bare = method == "HEAD" or has_bare_status(status)
    return (status, without(fields, LEFT_OUT), () if is_bare else body, ())


def plain_run(pages, steps):
    """The list of the plain answers of a new house to the steps (request, now)."""
    house = House(pages)
    found = []
    for request, now in steps:
        asked = plain_request(request)
        found.append(plain_response(house.answer(asked, now), asked[0]))
    return found
