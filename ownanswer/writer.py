"""Writing the messages of version one."""

from ownanswer.chunks import write_chunks
from ownanswer.heads import field_octets
from ownanswer.lengths import is_interim
from ownanswer.octets import LINE_END, to_octets, without

SIZE_NAMES = ("content-length", "transfer-encoding")


def _size_fields(body, sizes):
    """The field that says where the body ends."""
    if sizes is None:
        return (("content-length", str(len(body))),)
    return (("transfer-encoding", "chunked"),)


def _written(line, fields, body, sizes, trailers):
    """The octets of a whole message; its fields are written as they are."""
    octets = list(line)
    octets.extend(LINE_END)
    octets.extend(field_octets(fields))
    octets.extend(body if sizes is None else write_chunks(body, sizes, trailers))
    return tuple(octets)


def write_request(request, sizes):
    """The octets of a request, chunked if sizes is not None."""
    method, target, fields, body, trailers = request
    line = to_octets(f"{method} ") + tuple(target) + to_octets(" HTTP/1.1")
    kept = without(fields, SIZE_NAMES)
    if sizes is not None or len(body) > 0:
        kept = kept + _size_fields(body, sizes)
    return _written(line, kept, body, sizes, trailers)


def write_response(response, method, sizes):
    """The octets of a response to a request with this method."""
    status, fields, body, trailers = response
    line = to_octets(f"HTTP/1.1 {status} ")
    kept = without(fields, SIZE_NAMES)
    if is_interim(("reply", status, fields)) or status == 204:
        return _written(line, kept, (), None, ())
    kept = kept + _size_fields(body, sizes)
    if method == "HEAD" or status == 304:
        return _written(line, kept, (), None, ())
    return _written(line, kept, body, sizes, trailers)
