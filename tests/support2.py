"""What several tests of version two use: the other end of a link, made of frames by hand."""

from ownanswer.framereader import FrameReader
from ownanswer.frames import frame_octets
from ownanswer.link2 import Link
from ownanswer.packer import Packer
from ownanswer.unpacker import Unpacker
from support import octets

OPENING = octets("PRI * HTTP/2.0\r\n\r\nSM\r\n\r\n")
SETTINGS = ("settings", False, ())
ANSWER = ("settings", True, ())
ALL = 10 ** 9
ASK = [(octets(":method"), octets("GET")), (octets(":scheme"), octets("http")), (octets(":path"), octets("/"))]
REPLY = [(octets(":status"), octets("200"))]


def pairs(*rows):
    return [(octets(name), octets(value)) for name, value in rows]


def ask_list(*rows, method="GET"):
    return pairs((":method", method), (":scheme", "http"), (":path", "/"), *rows)


def reply_list(*rows, status="200"):
    return pairs((":status", status), *rows)


def row_of(frames):
    return tuple(octet for frame in frames for octet in frame_octets(frame))


def data(stream, text, end=False, pad=None):
    return ("data", stream, end, octets(text), pad)


class Peer:
    """The other end of an end of version two (a link, a client or a server): it sends frames and reads what is put out."""

    def __init__(self, end, is_client, opened=True):
        self.end = end
        self.packer = Packer(4096)
        self.unpacker = Unpacker(4096)
        self.reader = FrameReader()
        # The other end is a server if this one is a client: the octets of the opening stand ahead of all frames.
        self.opening = len(OPENING) if is_client else 0
        if opened:
            self.send_row(() if is_client else OPENING)
            self.send(SETTINGS)
            self.frames()

    def send_row(self, row):
        self.end.take(row)

    def send(self, *frames):
        self.send_row(row_of(frames))

    def head(self, stream, head_list, last=False, part=None, pad=None):
        return ("head", stream, last, True, part, self.packer.pack(head_list), pad)

    def send_head(self, stream, head_list, last=False, **more):
        self.send(self.head(stream, head_list, last, **more))

    def frames(self, most=ALL):
        """The frames that are complete with at most so many octets more; head frames with their lists in the place of octets."""
        row = self.end.give(most)
        skipped = min(self.opening, len(row))
        self.opening -= skipped
        found = []
        for kind, frame in self.reader.take(row[skipped:]):
            assert kind == "frame"
            if frame[0] == "head" and frame[3]:
                frame = ("head", frame[1], frame[2], self.unpacker.unpack(frame[5]))
            found.append(frame)
        return found


def new_client(opened=True):
    """(a client's link, the server's end of it by hand)."""
    link = Link("client")
    return link, Peer(link, True, opened)


def new_server(opened=True):
    """(a server's link, the client's end of it by hand)."""
    link = Link("server")
    return link, Peer(link, False, opened)


def resets(frames):
    return [frame for frame in frames if frame[0] == "reset"]
