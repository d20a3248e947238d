import unittest

from ownanswer.lengths import body_rule, is_last, waits

CHUNKED = (("transfer-encoding", "Chunked"),)
TEN = (("content-length", "10"),)
ZERO = (("content-length", "0"),)


def ask(fields=(), method="PUT"):
    return ("ask", method, (47,), fields)


def reply(status, fields=()):
    return ("reply", status, fields)


class BodyRuleTest(unittest.TestCase):
    def test_requests(self):
        self.assertEqual(body_rule(ask(), ""), ("none",))
        self.assertEqual(body_rule(ask(TEN), ""), ("sized", 10))
        self.assertEqual(body_rule(ask(ZERO), ""), ("sized", 0))
        self.assertEqual(body_rule(ask((("content-length", "00099"),)), ""), ("sized", 99))
        self.assertEqual(body_rule(ask((("content-length", "99999"),)), ""), ("sized", 99999))
        self.assertEqual(body_rule(ask(CHUNKED), ""), ("chunked",))
        self.assertEqual(body_rule(ask(TEN, "HEAD"), ""), ("sized", 10))
        self.assertEqual(body_rule(ask((("a", "b"),), "GET"), ""), ("none",))

    def test_responses(self):
        for status in (200, 203, 205, 303, 305, 404, 599):
            self.assertEqual(body_rule(reply(status), "GET"), ("open",))
            self.assertEqual(body_rule(reply(status, TEN), "GET"), ("sized", 10))
            self.assertEqual(body_rule(reply(status, CHUNKED), "POST"), ("chunked",))

    def test_responses_without_body(self):
        for fields in ((), TEN, CHUNKED):
            self.assertEqual(body_rule(reply(200, fields), "HEAD"), ("none",))
            self.assertEqual(body_rule(reply(404, fields), "HEAD"), ("none",))
            self.assertEqual(body_rule(reply(304, fields), "GET"), ("none",))
            for status in (100, 102, 199, 204):
                self.assertEqual(body_rule(reply(status, fields), "GET"), ("none",))

    def test_methods_have_a_case(self):
        self.assertEqual(body_rule(reply(200, TEN), "head"), ("sized", 10))
        self.assertEqual(body_rule(reply(200), "HEADS"), ("open",))


class IsLastTest(unittest.TestCase):
    def test_open_bodies(self):
        self.assertIs(is_last(reply(200), 1, "GET"), True)
        self.assertIs(is_last(reply(200, TEN), 1, "GET"), False)
        self.assertIs(is_last(reply(200, CHUNKED), 1, "GET"), False)
        self.assertIs(is_last(reply(200), 1, "HEAD"), False)
        self.assertIs(is_last(reply(204), 1, "GET"), False)
        self.assertIs(is_last(reply(304), 1, "GET"), False)
        self.assertIs(is_last(ask(), 1, ""), False)

    def test_version_one_zero(self):
        self.assertIs(is_last(ask(), 0, ""), True)
        self.assertIs(is_last(ask((("connection", "keep-alive"),)), 0, ""), True)
        self.assertIs(is_last(reply(200, TEN), 0, "GET"), True)
        self.assertIs(is_last(reply(200, TEN), 0, "HEAD"), True)
        self.assertIs(is_last(reply(204), 0, "GET"), True)

    def test_members_of_connection(self):
        for value in ("close", "CLOSE", "Close", "a,close", "a , close\t, b", "close,", ",close", "\tclose , x"):
            fields = (("connection", value),)
            self.assertIs(is_last(ask(fields), 1, ""), True, value)
            self.assertIs(is_last(reply(200, TEN + fields), 1, "GET"), True, value)
        for value in ("", "closed", "close;x", "clo se", "keep-alive", "close x", '"close"', '"a,close,b'):
            fields = (("connection", value),)
            wanted = value == '"a,close,b'
            self.assertIs(is_last(ask(fields), 1, ""), wanted, value)
            self.assertIs(is_last(reply(200, TEN + fields), 1, "GET"), wanted, value)

    def test_several_fields(self):
        several = (("connection", "a"), ("x", "y"), ("connection", "b, close"))
        self.assertIs(is_last(ask(several), 1, ""), True)
        self.assertIs(is_last(ask((("connections", "close"), ("close", "close"))), 1, ""), False)

    def test_interim_responses_are_never_last(self):
        for status in (100, 103, 199):
            for minor in (0, 1):
                self.assertIs(is_last(reply(status, (("connection", "close"),)), minor, "GET"), False)
                self.assertIs(is_last(reply(status), minor, "GET"), False)


class WaitsTest(unittest.TestCase):
    EXPECT = (("expect", "100-continue"),)

    def test_who_waits(self):
        self.assertIs(waits(ask(TEN + self.EXPECT), 1), True)
        self.assertIs(waits(ask(CHUNKED + self.EXPECT), 1), True)
        self.assertIs(waits(ask(TEN + (("expect", "100-CONTINUE"),)), 1), True)
        self.assertIs(waits(ask(TEN + (("expect", "x"),) + self.EXPECT), 1), True)
        self.assertIs(waits(ask((("content-length", "1"),) + self.EXPECT), 1), True)

    def test_who_does_not(self):
        self.assertIs(waits(ask(TEN + self.EXPECT), 0), False)
        self.assertIs(waits(ask(self.EXPECT), 1), False)
        self.assertIs(waits(ask(ZERO + self.EXPECT), 1), False)
        self.assertIs(waits(ask((("content-length", "00"),) + self.EXPECT), 1), False)
        self.assertIs(waits(ask(TEN), 1), False)
        for value in ("100-continue, x", "100", "", "100-continued"):
            self.assertIs(waits(ask(TEN + (("expect", value),)), 1), False, value)
        self.assertIs(waits(reply(200, TEN + self.EXPECT), 1), False)


if __name__ == "__main__":
    unittest.main()
