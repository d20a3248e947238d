"""The states of a stream, as one end sees it."""

STATES = ("idle", "open", "sent", "heard", "closed")
DEEDS = ("head", "last", "data", "end", "reset", "window", "part")

# What the table says where "closed" is a state; alone, "order" and "closed" are the words of faults.
ENDED = "closed: the state"

# By the state and whether the deed is this end's: what comes of each deed.
TABLE = {
    ("idle", True): ("open", "sent", "order", "order", "order", "order", "idle"),
    ("idle", False): ("open", "heard", "order", "order", "order", "order", "idle"),
    ("open", True): ("open", "sent", "open", "sent", "closed: the state", "open", "open"),
    ("open", False): ("open", "heard", "open", "heard", "closed: the state", "open", "open"),
    ("sent", True): ("closed", "closed", "closed", "closed", "closed: the state", "sent", "sent"),
    ("sent", False): ("sent", "closed: the state", "sent", "closed: the state", "closed: the state", "sent", "sent"),
    ("heard", True): (
        "heard", "closed: the state", "heard", "closed: the state", "closed: the state", "heard", "heard",
    ),
    ("heard", False): ("closed", "closed", "closed", "closed", "closed: the state", "heard", "heard"),
    ("closed", True): ("closed", "closed", "closed", "closed", "closed", "closed", "closed: the state"),
    ("closed", False): (
        "closed", "closed", "closed", "closed", "closed: the state", "closed: the state", "closed: the state",
    ),
}


def after(state, mine, deed):
    """The state behind a deed of this end (mine) or of the other one, or ("fault", word)."""
    told = TABLE[(state, mine)][DEEDS.index(deed)]
    if told == ENDED:
        return "closed"
    return ("fault", told) if told in ("order", "closed") else told
