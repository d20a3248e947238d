"""The names, arguments and places of the interface, and [0.2] for its records."""

import ast
import importlib
import inspect
import unittest
from pathlib import Path

PACKAGE = Path(__file__).resolve().parent.parent / "ownanswer"

FUNCTIONS = {
    "octets": {"to_octets": "text", "to_text": "octets", "is_token": "text", "is_token_sign": "octet", "is_value_sign": "octet",
               "lower": "text", "hex_digit": "octet", "values": "fields name", "without": "fields names", "joined": "events"},
    "lengths": {"body_rule": "head method", "is_last": "head minor method", "waits": "head minor"},
    "chunks": {"write_chunks": "body sizes trailers"},
    "writer": {"write_request": "request sizes", "write_response": "response method sizes"},
    "line": {"flow": "line sizes most"},
    "tokens": {"read_quoted": "text", "write_quoted": "text", "split_list": "value", "join_values": "fields name",
               "read_params": "element", "read_weight": "text"},
    "dates": {"write_date": "time", "read_date": "text now"},
    "targets": {"decode": "octets", "encode": "octets kept", "clean_path": "path", "read_target": "method target",
                "read_host": "value", "read_query": "query", "write_query": "pairs"},
    "ranges": {"read_ranges": "value size", "joined_ranges": "ranges", "write_content_range": "first last size",
               "read_content_range": "value"},
    "tags": {"read_tag": "text", "write_tag": "tag", "read_tags": "value", "strong_match": "a b", "weak_match": "a b"},
    "conditions": {"judge": "method fields tag modified now"},
    "choice": {"read_choices": "value", "choose": "fields offers"},
    "pages": {"is_page": "page", "find_variant": "variants offer", "page_fields": "page variant"},
    "prefixints": {"write_int": "n value first", "read_int": "octets at n"},
    "codes": {"word_of": "octet", "coded": "octets", "decoded": "octets", "coded_length": "octets"},
    "statictable": {"fixed_row": "number"},
    "frames": {"frame_octets": "frame", "code_of": "word"},
    "directives": {"read_directives": "fields", "directive": "directives name", "seconds": "value"},
    "freshness": {"lifetime": "response came", "age_when_come": "response asked came", "age": "entry now", "is_fresh": "entry now"},
    "keys": {"vary_names": "response", "fits": "entry request"},
    "shelf": {"may_keep": "request response came", "freshened": "entry response asked came"},
    "plain": {"plain_request": "request", "plain_response": "response method", "plain_run": "pages steps"},
    "journey": {"ends": "version"},
    "streamstates": {"after": "state mine deed"},
    "heads2": {"ask_pairs": "head", "reply_pairs": "head", "trailer_pairs": "fields", "read_head": "side pairs", "read_trailers": "pairs"},
}
CLASSES = {
    "errors": {"WrongUse": {"__init__": "word"}, "HeadFault": {"__init__": "word at"}},
    "startlines": {"LineReader": {"__init__": "side", "take": "octet"}},
    "heads": {"FieldsReader": {"__init__": "place minor status", "take": "octet"}},
    "chunks": {"ChunkReader": {"__init__": "", "take": "octet"}},
    "reader": {"Reader": {"__init__": "side", "expect": "method", "take": "piece", "finish": "", "octets_read": ""}},
    "client1": {"Client1": {"__init__": "", "ask": "request", "give": "most", "take": "piece", "answers": "", "shut": "",
                            "is_over": ""}},
    "server1": {"Server1": {"__init__": "", "take": "piece", "asked": "", "answer": "number response", "give": "most",
                            "shut": "", "is_over": ""}},
    "line": {"Line": {"__init__": "client server", "carry": "size", "carried": ""}},
    "house": {"House": {"__init__": "pages", "answer": "request now", "pages": "", "changes": ""}},
    "movingtable": {"MovingTable": {"__init__": "room", "add": "name value", "resize": "room", "row": "number", "find": "name value",
                                    "rows": "", "room": "", "size": ""}},
    "packer": {"Packer": {"__init__": "limit", "pack": "pairs", "set_room": "room", "set_limit": "limit", "table": ""}},
    "unpacker": {"Unpacker": {"__init__": "limit", "unpack": "octets", "set_limit": "limit", "table": ""}},
    "framereader": {"FrameReader": {"__init__": "", "take": "piece", "each": "piece", "set_most": "most"}},
    "settings": {"Settings": {"__init__": "", "value": "word", "change": "pairs", "pairs": ""}},
    "shelf": {"Shelf": {"__init__": "room", "put": "entry", "find": "request", "drop": "target", "entries": ""}},
    "keeper": {"Keeper": {"__init__": "origin room", "ask": "request now", "entries": ""},
               "Told": {"__init__": "responses", "answer": "request now", "asked": ""}},
    "journey": {"Journey": {"__init__": "version house sizes", "ask": "request", "carry": "", "waiting": "", "serve": "k now", "settle": "now", "order": "",
                            "heard": "", "answers": "", "is_over": ""}},
    "far": {"Far": {"__init__": "version house sizes", "answer": "request now", "journeys": ""}},
    "windows": {"Window": {"__init__": "size", "use": "count", "grow": "amount", "shift": "amount", "size": "", "room": ""}},
    "turns": {"Turns": {"__init__": "", "add": "stream weight", "remove": "stream", "set_weight": "stream weight", "choose": "ready", "mark": "stream",
                        "known": "", "clock": ""}},
    "link2": {"Link": {"__init__": "side", "start": "pairs last", "head": "stream pairs last", "body": "stream octets last", "reset": "stream word",
                       "take": "piece", "each": "piece", "give": "most", "events": "", "shut": "", "is_over": "", "change": "pairs"}},
    "client2": {"Client2": {"__init__": "", "ask": "request", "give": "most", "take": "piece", "answers": "", "shut": "", "is_over": ""}},
    "server2": {"Server2": {"__init__": "", "take": "piece", "asked": "", "answer": "number response", "give": "most", "shut": "", "is_over": ""}},
}
PROPERTIES = (("reader", "Reader", "octets_read"), ("line", "Line", "carried"))


def tree_of(name):
    return ast.parse((PACKAGE / f"{name}.py").read_text())


def arguments(node):
    return [argument.arg for argument in node.args.args]


class InterfaceTest(unittest.TestCase):
    def test_functions(self):
        for name, functions in FUNCTIONS.items():
            defined = {node.name: node for node in tree_of(name).body if isinstance(node, ast.FunctionDef)}
            module = importlib.import_module(f"ownanswer.{name}")
            for function, parameters in functions.items():
                self.assertEqual(arguments(defined[function]), parameters.split(), function)
                self.assertTrue(inspect.isfunction(getattr(module, function)))

    def test_classes(self):
        for name, classes in CLASSES.items():
            defined = {node.name: node for node in tree_of(name).body if isinstance(node, ast.ClassDef)}
            for kind, methods in classes.items():
                own = {node.name: node for node in defined[kind].body if isinstance(node, ast.FunctionDef)}
                for method, parameters in methods.items():
                    self.assertEqual(arguments(own[method]), ["self"] + parameters.split(), (kind, method))

    def test_names_behind_a_star(self):
        pack = importlib.import_module("ownanswer.packer").Packer.pack
        choices = inspect.signature(pack).parameters["choices"]
        self.assertEqual((choices.kind, choices.default), (inspect.Parameter.KEYWORD_ONLY, ()))

    def test_values(self):
        self.assertIsInstance(importlib.import_module("ownanswer.statictable").FIXED, tuple)
        self.assertIsInstance(importlib.import_module("ownanswer.frames").CODES, dict)
        states = importlib.import_module("ownanswer.streamstates")
        self.assertIsInstance(states.STATES, tuple)
        self.assertIsInstance(states.DEEDS, tuple)

    def test_generators(self):
        reader = importlib.import_module("ownanswer.framereader").FrameReader
        self.assertTrue(inspect.isgeneratorfunction(reader.each))
        self.assertIsInstance(reader().take(()), list)
        link = importlib.import_module("ownanswer.link2").Link
        self.assertTrue(inspect.isgeneratorfunction(link.each))
        self.assertIsNone(link("client").take(()))

    def test_properties(self):
        for name, kind, word in PROPERTIES:
            found = getattr(importlib.import_module(f"ownanswer.{name}"), kind)
            self.assertIsInstance(found.__dict__[word], property)

    def test_errors(self):
        errors = importlib.import_module("ownanswer.errors")
        self.assertEqual(errors.WrongUse.__bases__, (ValueError,))
        self.assertEqual(errors.HeadFault.__bases__, (ValueError,))


class RecordsTest(unittest.TestCase):
    """[0.2]: records are tuples through and through."""

    def is_made_of_tuples(self, record):
        if isinstance(record, tuple):
            return all(self.is_made_of_tuples(part) for part in record)
        return isinstance(record, (int, str, bool)) or record is None

    def test_events(self):
        reader = importlib.import_module("ownanswer.reader").Reader("ask")
        text = "PUT / HTTP/1.1\r\nhost: h\r\nexpect: 100-continue\r\nconnection: close\r\ntransfer-encoding: chunked\r\n\r\n"
        events = reader.take([*text.encode()] + [*b"1\r\na\r\n0\r\nt: v\r\n\r\nx"])
        self.assertIsInstance(events, list)
        self.assertEqual([event[0] for event in events], ["head", "waits", "last", "body", "end", "fault"])
        for event in events:
            self.assertTrue(self.is_made_of_tuples(event), event)

    def test_requests_and_responses(self):
        client = importlib.import_module("ownanswer.client1").Client1()
        server = importlib.import_module("ownanswer.server1").Server1()
        client.ask(("PUT", (47,), (("host", "h"),), (1, 2), ()))
        piece = client.give(1000)
        self.assertTrue(self.is_made_of_tuples(piece))
        server.take(list(piece))
        told = server.asked()
        server.answer(0, (200, (), (3,), ()))
        client.take(list(server.give(1000)))
        found = client.answers()
        for row in (told, found):
            self.assertIsInstance(row, list)
            self.assertTrue(self.is_made_of_tuples(row[0]), row)

    def test_what_functions_return(self):
        tokens = importlib.import_module("ownanswer.tokens")
        targets = importlib.import_module("ownanswer.targets")
        writer = importlib.import_module("ownanswer.writer")
        for record in (
            tokens.read_params("a;b=c"), targets.read_target("GET", (47, 63, 97)), targets.read_target("GET", [47, 63, 97]),
            targets.read_target("CONNECT", (97, 58, 49)), targets.read_host("h"), targets.decode([37, 52, 49]),
            targets.encode([0], []), targets.clean_path((47, 46)), targets.read_query((97,))[0], targets.write_query([((), ())]),
            writer.write_request(("GET", (47,), (), (), ()), (1,)), writer.write_response((200, (), (), ()), "GET", None),
        ):
            self.assertIsInstance(record, tuple)
            self.assertTrue(self.is_made_of_tuples(record), record)

    def test_what_the_house_returns(self):
        house = importlib.import_module("ownanswer.house").House([((47,), 0, (("a/b", "de", (1, 2, 3), "x", 0), ("a/b", "", (), "y", 0)))])
        host = ("host", "h")
        for method, fields in (("GET", ()), ("GET", (("range", "bytes=0-0"),)), ("GET", (("range", "bytes=0-0,2-2"),)), ("TRACE", ()),
                               ("GET", (("if-none-match", "*"),)), ("GET", (("range", "bytes=9-"),)), ("HEAD", ()), ("OPTIONS", ()),
                               ("PUT", (("content-type", "a/b"),)), ("POST", ()), ("GET", (("accept", "x/y"),)), ("DELETE", ())):
            response = house.answer((method, (47,), (host,) + fields, (), ()), 0)
            self.assertIsInstance(response, tuple)
            self.assertEqual(len(response), 4)
            self.assertTrue(self.is_made_of_tuples(response), response)
            self.assertTrue(self.is_made_of_tuples(house.pages()), response)

    def test_head_tables_and_frames(self):
        packer = importlib.import_module("ownanswer.packer").Packer(4096)
        unpacker = importlib.import_module("ownanswer.unpacker").Unpacker(4096)
        reader = importlib.import_module("ownanswer.framereader").FrameReader()
        block = packer.pack([((97,), (98,)), ((97,), (99,))])
        pairs = unpacker.unpack(list(block))
        events = reader.take([0, 0, 6, 4, 0, 0, 0, 0, 0, 0, 1, 0, 0, 0, 9] + [0, 0, 6, 1, 37, 0, 0, 0, 1, 0, 0, 0, 3, 1, 7])
        for row in (pairs, unpacker.table().rows(), packer.table().rows(), events):
            self.assertIsInstance(row, list)
            self.assertEqual(len(row), 2)
            self.assertTrue(self.is_made_of_tuples(tuple(row)), row)
        for record in (block, unpacker.table().row(1), unpacker.table().row(24), unpacker.table().find((97,), ())):
            self.assertTrue(self.is_made_of_tuples(record), record)

    def test_version_two(self):
        client = importlib.import_module("ownanswer.client2").Client2()
        server = importlib.import_module("ownanswer.server2").Server2()
        fields = (("host", "h"), ("a", "b"))
        client.ask(("PUT", (47,), fields, (1, 2), (("t", "v"),)))
        piece = client.give(1000)
        self.assertTrue(self.is_made_of_tuples(piece))
        server.take(list(piece))
        told = server.asked()
        self.assertEqual(told, [(0, ("PUT", (47,), fields, (1, 2), (("t", "v"),)))])
        server.answer(0, (200, (), (3,), ()))
        client.take(list(server.give(1000)))
        found = client.answers()
        self.assertEqual(found, [(0, (200, (), (3,), ()))])
        for row in (told, found):
            self.assertIsInstance(row, list)
            self.assertTrue(self.is_made_of_tuples(row[0]), row)
        heads2 = importlib.import_module("ownanswer.heads2")
        for row in (heads2.ask_pairs(("ask", "GET", [47], fields)), heads2.reply_pairs(("reply", 200, fields)), heads2.trailer_pairs(fields)):
            self.assertIsInstance(row, list)
            self.assertTrue(self.is_made_of_tuples(tuple(row)), row)

    def test_kept_copies_and_journeys(self):
        keeper = importlib.import_module("ownanswer.keeper")
        far = importlib.import_module("ownanswer.far").Far
        journey = importlib.import_module("ownanswer.journey").Journey
        house = importlib.import_module("ownanswer.house").House([((47,), 5, (("a/b", "", (1, 2, 3), "x", 0),))])
        request = ("GET", (47,), (("host", "h"), ("te", "x")), (), ())
        ahead = keeper.Keeper(far(2, house, [9]), 5)
        for now, how in ((0, "fetched"), (1, "kept"), (9, "checked")):
            found = ahead.ask(request, now)
            self.assertEqual(found[1], how)
            self.assertTrue(self.is_made_of_tuples(found), found)
        self.assertIsInstance(ahead.entries(), list)
        self.assertTrue(self.is_made_of_tuples(tuple(ahead.entries())))
        told = keeper.Told([(200, (), (), ())])
        told.answer(request, 3)
        one = journey(1, house, [4])
        one.ask(request)
        one.settle(0)
        for row in (told.asked(), one.heard(), one.answers()):
            self.assertIsInstance(row, list)
            self.assertEqual(len(row), 1)
            self.assertTrue(self.is_made_of_tuples(tuple(row)), row)

    def test_rows_of_records(self):
        ranges = importlib.import_module("ownanswer.ranges")
        tags = importlib.import_module("ownanswer.tags")
        choice = importlib.import_module("ownanswer.choice")
        for row in (ranges.read_ranges("bytes=0-1,5-", 9), ranges.joined_ranges(((3, 4), (0, 1))), tags.read_tags('"a",W/"b"'),
                    choice.read_choices("a;b=c;q=0.5,d")):
            self.assertIsInstance(row, list)
            self.assertTrue(self.is_made_of_tuples(tuple(row)), row)


if __name__ == "__main__":
    unittest.main()
