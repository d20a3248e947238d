"""Octets, texts, tokens, fields and events: what all other parts use."""

LINE_END = (13, 10)
DIGITS = "0123456789"
TOKEN_MARKS = (33, 35, 36, 38, 39, 42, 43, 45, 46, 94, 95, 96, 124, 126)

# A blank holds the place of the octet 37, which no text has.
SIGNS = " !\"#$ &'()*+,-./0123456789:;<=>?@ABCDEFGHIJKLMNOPQRSTUVWXYZ[\\]^_`abcdefghijklmnopqrstuvwxyz{|}~"


def to_octets(text):
    """The octets of a text."""
    return tuple([ord(sign) for sign in text])


def to_text(octets):
    """The text of octets, or None if one of them is that of no character of a text."""
    signs = []
    for octet in octets:
        if not is_value_sign(octet):
            return None
        signs.append("\t" if octet == 9 else SIGNS[octet - 32])
    return "".join(signs)


def is_digit(octet):
    return 48 <= octet <= 57


def is_letter(octet):
    return 65 <= octet <= 90 or 97 <= octet <= 122


def is_blank(octet):
    """True for the blank and the tab."""
    return octet == 32 or octet == 9


def is_token_sign(octet):
    return is_letter(octet) or is_digit(octet) or octet in TOKEN_MARKS


def is_value_sign(octet):
    return octet == 9 or (32 <= octet <= 126 and octet != 37)


def is_token(text):
    return len(text) > 0 and all([is_token_sign(ord(sign)) for sign in text])


def is_digits(text):
    """True for a text of at least one digit and nothing else."""
    return len(text) > 0 and all([sign in DIGITS for sign in text])


def lower(text):
    return text.lower()


def trimmed(text):
    """The text without the blanks and tabs at both ends."""
    return text.strip(" \t")


def hex_digit(octet):
    """The value of a hexadecimal digit, or -1."""
    if is_digit(octet):
        return octet - 48
    if 65 <= octet <= 70:
        return octet - 55
    if 97 <= octet <= 102:
        return octet - 87
    return -1


def values(fields, name):
    """The list of the values of a name, in order."""
    wanted = lower(name)
    return [value for key, value in fields if key == wanted]


def without(fields, names):
    """The fields whose name is not in the list names."""
    return tuple([(key, value) for key, value in fields if key not in names])


def joined(events):
    """The list in which neighbouring "body" events are one."""
    found = []
    run = []
    running = False
    for event in events:
        if event[0] == "body":
            run.extend(event[1])
            running = True
            continue
        if running:
            found.append(("body", tuple(run)))
            run = []
            running = False
        found.append(event)
    if running:
        found.append(("body", tuple(run)))
    return found
