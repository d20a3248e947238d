"""The choice among offers by what a request accepts."""

from ownanswer.octets import lower
from ownanswer.tokens import join_values, read_params, read_weight, split_list

FULL = 1000
WEIGHT_NAME = "q"


def _read_choice(element):
    """(head, params, weight) of an element, or None."""
    read = read_params(element)
    if read is None:
        return None
    head, params = read
    weights = [read_weight(value) for name, value in params if name == WEIGHT_NAME]
    if None in weights:
        return None
    others = tuple([(name, value) for name, value in params if name != WEIGHT_NAME])
    return (lower(head), others, weights[-1] if len(weights) > 0 else FULL)


def read_choices(value):
    """The list of (head, params, weight) of a list, or None."""
    parts = split_list(value)
    if parts is None:
        return None
    choices = [_read_choice(part) for part in parts]
    return None if None in choices else choices


def _joined_choices(fields, name):
    """The choices of a field, or None if it is not there or cannot be read."""
    value = join_values(fields, name)
    return None if value is None else read_choices(value)


def _weight(choices, heads):
    """The weight of the first of these heads that a choice without parameters has, or 0."""
    for wanted in heads:
        weights = [weight for head, params, weight in choices if head == wanted and params == ()]
        if len(weights) > 0:
            return weights[0]
    return 0


def _kind_weight(choices, kind):
    if choices is None:
        return FULL
    family = kind.partition("/")[0]
    return _weight(choices, (kind, f"{family}/*", "*/*"))


def _language_weight(choices, language):
    if choices is None or language == "":
        return FULL
    parts = language.split("-")
    heads = ["-".join(parts[:many]) for many in range(len(parts), 0, -1)]
    return _weight(choices, heads + ["*"])


def choose(fields, offers):
    """The index of the offer with the greatest weight, the first of equals; -1 if none is accepted."""
    kinds = _joined_choices(fields, "accept")
    languages = _joined_choices(fields, "accept-language")
    best = -1
    most = 0
    for at, (kind, language) in enumerate(offers):
        weight = _kind_weight(kinds, kind) * _language_weight(languages, language)
        if weight > most:
            best = at
            most = weight
    return best
