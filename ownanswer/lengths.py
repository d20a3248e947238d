"""Whose body ends where, and which message is the last on its line."""

from ownanswer.octets import lower, trimmed, values


def is_interim(head):
    return head[0] == "reply" and head[1] < 200


def has_bare_status(status):
    """True if no response with this status has a body, whatever its fields say."""
    return status == 204 or status == 304


def has_close(fields):
    """True if `close` is a member of a field connection."""
    for value in values(fields, "connection"):
        if "close" in [lower(trimmed(member)) for member in value.split(",")]:
            return True
    return False


def body_rule(head, method):
    """("none",), ("sized", n), ("chunked",) or ("open",)."""
    fields = head[-1]
    if head[0] == "reply" and (method == "HEAD" or is_interim(head) or has_bare_status(head[1])):
        return ("none",)
    if len(values(fields, "transfer-encoding")) > 0:
        return ("chunked",)
    sizes = values(fields, "content-length")
    if len(sizes) > 0:
        return ("sized", int(sizes[0]))
    return ("none",) if head[0] == "ask" else ("open",)


def is_last(head, minor, method):
    """True if the message is the last on its line."""
    if is_interim(head):
        return False
    return minor == 0 or has_close(head[-1]) or body_rule(head, method) == ("open",)


def waits(head, minor):
    """True if this is the head of a request that waits for the interim response 100."""
    if head[0] != "ask" or minor == 0 or body_rule(head, "") in (("none",), ("sized", 0)):
        return False
    return "100-continue" in [lower(value) for value in values(head[-1], "expect")]
