"""The code of octets by words of 5 to 16 bits."""

from ownanswer.errors import HeadFault

END = 256

# The octets by their ranks: letters, digits, `-./:=_`, blank, `,`, `;`, capital letters, all others, the end.
RANKED = (
    97, 98, 99, 100, 101, 102, 103, 104, 105, 106, 107, 108, 109, 110, 111, 112, 113, 114, 115, 116, 117, 118, 119,
    120, 121, 122,
    48, 49, 50, 51, 52, 53, 54, 55, 56, 57,
    45, 46, 47, 58, 61, 95, 32, 44, 59,
    65, 66, 67, 68, 69, 70, 71, 72, 73, 74, 75, 76, 77, 78, 79, 80, 81, 82, 83, 84, 85, 86, 87, 88, 89, 90,
    0, 1, 2, 3, 4, 5, 6, 7, 8, 9, 10, 11, 12, 13, 14, 15, 16, 17, 18, 19, 20, 21, 22, 23, 24, 25, 26, 27, 28, 29,
    30, 31, 33, 34, 35, 36, 37, 38, 39, 40, 41, 42, 43, 60, 62, 63, 64, 91, 92, 93, 94, 96, 123, 124, 125, 126, 127,
    128, 129, 130, 131, 132, 133, 134, 135, 136, 137, 138, 139, 140, 141, 142, 143, 144, 145, 146, 147, 148, 149,
    150, 151, 152, 153, 154, 155, 156, 157, 158, 159, 160, 161, 162, 163, 164, 165, 166, 167, 168, 169, 170, 171,
    172, 173, 174, 175, 176, 177, 178, 179, 180, 181, 182, 183, 184, 185, 186, 187, 188, 189, 190, 191, 192, 193,
    194, 195, 196, 197, 198, 199, 200, 201, 202, 203, 204, 205, 206, 207, 208, 209, 210, 211, 212, 213, 214, 215,
    216, 217, 218, 219, 220, 221, 222, 223, 224, 225, 226, 227, 228, 229, 230, 231, 232, 233, 234, 235, 236, 237,
    238, 239, 240, 241, 242, 243, 244, 245, 246, 247, 248, 249, 250, 251, 252, 253, 254, 255,
    256,
)

# (length, first number, first rank, how many) of the words of each length.
LENGTHS = ((5, 0, 0, 24), (6, 48, 24, 8), (8, 224, 32, 31), (15, 32640, 63, 62), (16, 65404, 125, 132))


def word_of(octet):
    """(number, length) of the word of an octet, or of 256."""
    rank = RANKED.index(octet)
    length, number, start = [(bits, low, least) for bits, low, least, _ in LENGTHS if least <= rank][-1]
    return (number + rank - start, length)


def coded_length(octets):
    """How many octets the words of these octets fill."""
    bits = sum([word_of(octet)[1] for octet in octets])
    return (bits + 7) // 8


def coded(octets):
    """The words of these octets one behind the other, filled up with bits 1."""
    found = []
    held = 0
    count = 0
    for octet in octets:
        number, length = word_of(octet)
        held = (held << length) | number
        count += length
        while count >= 8:
            count -= 8
            found.append(held >> count)
            held = held & ((1 << count) - 1)
    if count > 0:
        free = 8 - count
        found.append(((held + 1) << free) - 1)
    return tuple(found)


def _first_word(held, count):
    """(octet, length) of the word at the front of count bits, or None if there is no whole one."""
    for length, number, rank, many in LENGTHS:
        if length > count:
            return None
        place = (held >> (count - length)) - number
        if place < many:
            return (RANKED[rank + place], length)
    return None


def decoded_or_none(octets):
    """The octets whose words these are, or None."""
    found = []
    held = 0
    count = 0
    for octet in octets:
        held = (held << 8) | octet
        count += 8
        word = _first_word(held, count)
        while word is not None:
            if word[0] == END:
                return None
            found.append(word[0])
            count -= word[1]
            held = held & ((1 << count) - 1)
            word = _first_word(held, count)
    return None if count >= 8 or held != (1 << count) - 1 else tuple(found)


def decoded(octets):
    """The octets whose words these are."""
    found = decoded_or_none(octets)
    if found is None:
        raise HeadFault("code", 0)
    return found
