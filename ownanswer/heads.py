"""Field lines: reading them octet by octet, and writing them."""

from ownanswer.octets import (
    LINE_END, is_blank, is_digit, is_letter, is_token_sign, is_value_sign, lower, to_octets, to_text, trimmed,
)

MOST_NAME = 40
MOST_VALUE = 1000
MOST_LENGTH_DIGITS = 5

FIELD_FAULT = ("fault", "field")
NOT_IN_TRAILERS = ("content-length", "transfer-encoding", "host", "trailer", "connection")
CHUNKED = ((67, 99), (72, 104), (85, 117), (78, 110), (75, 107), (69, 101), (68, 100))

# Point, minus, colon, both brackets and the underscore.
HOST_MARKS = (46, 45, 58, 91, 93, 95)


def field_octets(fields):
    """The field lines of these fields, and the empty line behind them."""
    octets = []
    for name, value in fields:
        octets.extend(to_octets(f"{name}: {value}"))
        octets.extend(LINE_END)
    octets.extend(LINE_END)
    return tuple(octets)


def _may_stand(word, octet, at):
    """True if this octet may be the one at this index of a special value."""
    if word == "length":
        return at < MOST_LENGTH_DIGITS and is_digit(octet)
    if word == "coding":
        return at < len(CHUNKED) and octet in CHUNKED[at]
    return at < MOST_VALUE and (is_letter(octet) or is_digit(octet) or octet in HOST_MARKS)


class ValueReader:
    """Reads one value; word is that of its faults, "field" for ordinary ones."""

    def __init__(self, word):
        self.word = word
        self._octets = []
        self._ended = False

    def take(self, octet):
        """False if the octet cannot stand here."""
        if self.word == "field":
            return self._take_ordinary(octet)
        # Blanks at the ends of special values are read, but not counted.
        if is_blank(octet):
            self._ended = len(self._octets) > 0
            return self.is_whole() or not self._ended
        if self._ended or not _may_stand(self.word, octet, len(self._octets)):
            return False
        self._octets.append(octet)
        return True

    def _take_ordinary(self, octet):
        if len(self._octets) == MOST_VALUE or not is_value_sign(octet):
            return False
        self._octets.append(octet)
        return True

    def is_whole(self):
        """True if the value may end here."""
        if self.word == "length":
            return len(self._octets) > 0
        return self.word != "coding" or len(self._octets) == len(CHUNKED)

    def text(self):
        return trimmed(to_text(self._octets))


class FieldsReader:
    """Reads field lines up to the empty line; place is "ask", "reply" or "trailer"."""

    def __init__(self, place, minor, status):
        self._place = place
        self._minor = minor
        self._bodiless = 100 <= status <= 199 or status == 204
        self._stage = "name"
        self._fields = []
        self._seen = {}
        self._name = []
        self._value = None

    def take(self, octet):
        """None, ("fields", fields) behind the empty line, or ("fault", word)."""
        if self._stage == "name":
            return self._take_name(octet)
        if self._stage == "value":
            return self._take_value(octet)
        if octet != 10:
            return FIELD_FAULT
        if self._stage == "empty":
            return ("fields", tuple(self._fields))
        self._stage = "name"
        return None

    def _take_name(self, octet):
        if octet == 13 and len(self._name) == 0:
            return self._take_empty_line()
        if octet == 58 and len(self._name) > 0:
            return self._take_colon()
        if len(self._name) == MOST_NAME or not is_token_sign(octet):
            return FIELD_FAULT
        self._name.append(octet)
        return None

    def _take_empty_line(self):
        if self._place == "ask" and self._minor == 1 and "host" not in self._seen:
            return ("fault", "host")
        self._stage = "empty"
        return None

    def _take_colon(self):
        name = lower(to_text(self._name))
        if self._place == "trailer" and name in NOT_IN_TRAILERS:
            return ("fault", "trailer")
        word = self._word_of(name)
        if self._is_refused(word):
            return ("fault", word)
        self._value = ValueReader(word)
        self._stage = "value"
        return None

    def _word_of(self, name):
        """The word of the faults of the field with this name."""
        if name == "content-length":
            return "length"
        if name == "transfer-encoding":
            return "coding"
        # In a response host is a field like others: [2.5] speaks of requests.
        if name == "host" and self._place == "ask":
            return "host"
        return "field"

    def _is_refused(self, word):
        """True if a special field with this word is not allowed here."""
        if word == "host":
            return "host" in self._seen
        if word == "field":
            return False
        if "content-length" in self._seen or "transfer-encoding" in self._seen or self._bodiless:
            return True
        return word == "coding" and self._minor == 0

    def _take_value(self, octet):
        if octet == 13:
            return self._take_value_end()
        if not self._value.take(octet):
            return ("fault", self._value.word)
        return None

    def _take_value_end(self):
        if not self._value.is_whole():
            return ("fault", self._value.word)
        name = lower(to_text(self._name))
        self._fields.append((name, self._value.text()))
        self._seen[name] = True
        self._name = []
        self._stage = "end"
        return None
