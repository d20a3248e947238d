"""The keeper ([10.9] to [10.13])."""

import unittest

from support import octets

from ownanswer.dates import write_date
from ownanswer.house import House
from ownanswer.keeper import Keeper, Told

HOST = ("host", "h")
AGED = ("cache-control", "max-age=60")
TAG = ("etag", '"x"')


def ask(*fields, method="GET", target="/a", body=""):
    return (method, octets(target), (HOST,) + fields, octets(body), ())


def answer(*fields, status=200, body="hi"):
    return (status, fields, octets(body), ())


def control(value):
    return ("cache-control", value)


def kept(*fields, now=1000, room=5, more=()):
    """(a keeper that has kept an answer with these fields at a time, its origin, which then answers with more)."""
    origin = Told((answer(*fields),) + tuple(more) + (answer(status=299),))
    keeper = Keeper(origin, room)
    keeper.ask(ask(), now)
    assert len(keeper.entries()) == 1
    return keeper, origin


class ToldTest(unittest.TestCase):
    def test_it_answers_in_order(self):
        origin = Told([answer(status=201), answer(status=202)])
        self.assertEqual(origin.asked(), [])
        self.assertEqual([origin.answer(ask(target=str(now)), now)[0] for now in range(4)], [201, 202, 202, 202])
        self.assertEqual(origin.asked(), [(ask(target=str(now)), now) for now in range(4)])
        origin.asked().clear()
        self.assertEqual(len(origin.asked()), 4)

    def test_one_answer(self):
        origin = Told((answer(),))
        self.assertEqual([origin.answer(ask(), 0), origin.answer(ask(), 0)], [answer(), answer()])


class PassedOnTest(unittest.TestCase):
    def test_as_it_is(self):
        for asked in (ask(method="HEAD"), ask(method="POST", body="x"), ask(method="OPTIONS"), ask(method="get"), ask(("range", "bytes=0-1")), ask(("if-range", "x")),
                      ask(("if-match", "*")), ask(("if-unmodified-since", "x")), ask(control("no-store")), ask(control('"')), ask(control("a, NO-STORE=x"))):
            keeper, origin = kept(AGED, more=(answer(AGED, body="new"),))
            before = keeper.entries()
            self.assertEqual(keeper.ask(asked, 1001), (answer(AGED, body="new"), "fetched"), asked)
            self.assertEqual(origin.asked()[1:], [(asked, 1001)])
            if asked[0] not in ("POST", "get"):
                # Nothing is kept, and the order of use stays.
                self.assertEqual(keeper.entries(), before)

    def test_what_is_dropped(self):
        for method in ("PUT", "POST", "DELETE", "X", "get"):
            for status in (100, 199, 200, 204, 304, 399, 400, 412, 500):
                keeper, _ = kept(AGED, more=(answer(status=status),))
                keeper.ask(ask(method=method, target="/b"), 1000)
                self.assertEqual(len(keeper.entries()), 1)
                keeper, _ = kept(AGED, more=(answer(status=status),))
                keeper.ask(ask(method=method), 1000)
                self.assertEqual(keeper.entries() == [], 200 <= status < 400, (method, status))
        for asked in (ask(method="HEAD"), ask(method="OPTIONS"), ask(("range", "x")), ask(control("no-store"))):
            for status in (200, 304):
                keeper, _ = kept(AGED, more=(answer(status=status),))
                keeper.ask(asked, 1000)
                self.assertEqual(len(keeper.entries()), 1)

    def test_all_entries_of_the_target_are_dropped(self):
        origin = Told((answer(AGED, ("vary", "v")),))
        keeper = Keeper(origin, 5)
        for fields in ((("v", "1"),), (("v", "2"),)):
            keeper.ask(ask(*fields), 0)
        keeper.ask(ask(target="/b"), 0)
        self.assertEqual(len(keeper.entries()), 3)
        keeper.ask(("DELETE", octets("/a"), (("host", "other"),), (), ()), 0)
        self.assertEqual([entry[0] for entry in keeper.entries()], [octets("/b")])

    def test_a_304_changes_nothing(self):
        keeper, _ = kept(AGED, TAG, more=(answer(TAG, ("a", "new"), status=304),))
        before = keeper.entries()
        self.assertEqual(keeper.ask(ask(("if-match", '"x"')), 1001)[1], "fetched")
        self.assertEqual(keeper.entries(), before)


class KeptTest(unittest.TestCase):
    def test_entries(self):
        keeper, _ = kept(AGED)
        self.assertEqual(keeper.entries(), [(octets("/a"), (HOST,), answer(AGED), 1000, 1000)])
        self.assertEqual(Keeper(Told((answer(),)), 5).entries(), [])

    def test_while_it_is_fresh(self):
        for now, how in ((1000, "kept"), (1059, "kept"), (1060, "fetched"), (1061, "fetched")):
            keeper, origin = kept(AGED)
            response, told = keeper.ask(ask(), now)
            self.assertEqual(told, how)
            if how == "kept":
                self.assertEqual(response, answer(AGED, ("age", str(now - 1000))))
                self.assertEqual(len(origin.asked()), 1)
            else:
                self.assertEqual(response, answer(status=299))
                self.assertEqual(origin.asked()[1:], [(ask(), now)])

    def usable(self, fields, wanted, now):
        """Whether an entry with the lifetime 60 of the time 1000 is used for a request with these directives."""
        keeper, _ = kept(*fields)
        return keeper.ask(ask(*[control(value) for value in wanted]), now)[1] == "kept"

    def test_no_cache(self):
        self.assertFalse(self.usable((AGED,), ("no-cache",), 1000))
        self.assertFalse(self.usable((AGED,), ("No-Cache=x",), 1000))
        self.assertFalse(self.usable((AGED, control("no-cache"), TAG), (), 1000))
        self.assertFalse(self.usable((AGED, control('no-cache="a"')), ("max-stale",), 1000))
        self.assertTrue(self.usable((AGED,), ("no-transform",), 1000))

    def test_max_age(self):
        for value, now, wanted in (("max-age=10", 1009, True), ("max-age=10", 1010, True), ("max-age=10", 1011, False), ("max-age=0", 1000, True),
                                   ("max-age=0", 1001, False), ("max-age=x", 1059, True), ("max-age", 1059, True), ("max-age=999", 1060, False),
                                   ("max-age=5, max-age=50", 1010, False), ("max-age=x, max-age=5", 1010, True), ('max-age="10"', 1010, True)):
            self.assertEqual(self.usable((AGED,), (value,), now), wanted, (value, now))

    def test_min_fresh(self):
        for value, now, wanted in (("min-fresh=10", 1049, True), ("min-fresh=10", 1050, False), ("min-fresh=10", 1051, False), ("min-fresh=0", 1059, True),
                                   ("min-fresh=0", 1060, False), ("min-fresh=60", 1000, False), ("min-fresh=59", 1000, True), ("min-fresh=x", 1059, True),
                                   ("min-fresh", 1059, True), ("min-fresh=1, max-stale", 1059, False), ("min-fresh=0, max-stale", 1060, False)):
            self.assertEqual(self.usable((AGED,), (value,), now), wanted, (value, now))

    def test_max_stale(self):
        for value, now, wanted in (("max-stale=10", 1070, True), ("max-stale=10", 1071, False), ("max-stale=0", 1060, True), ("max-stale=0", 1061, False),
                                   ("max-stale", 10 ** 9, True), ("max-stale=x", 1060, False), ("max-stale=x", 1059, True), ('max-stale=""', 1061, False),
                                   ("max-stale=5, max-stale", 1066, False), ("max-stale=10, max-age=65", 1065, True), ("max-stale=10, max-age=65", 1066, False),
                                   ("a, MAX-STALE=2", 1062, True)):
            self.assertEqual(self.usable((AGED,), (value,), now), wanted, (value, now))

    def test_must_revalidate(self):
        fields = (control("max-age=60, must-revalidate"),)
        for value, now, wanted in (("max-stale", 1060, False), ("max-stale=10", 1061, False), ("max-stale", 1059, True)):
            self.assertEqual(self.usable(fields, (value,), now), wanted, (value, now))
        # In a request it says nothing.
        self.assertTrue(self.usable((AGED,), ("max-stale, must-revalidate",), 1061))

    def test_ages(self):
        for fields, now, shown in (((("age", "30"),), 1000, 30), ((("age", "30"),), 1029, 59), ((("date", write_date(980)),), 1010, 30), ((("age", "x"),), 1010, 10),
                                   ((("age", "5"), ("b", "c"), ("age", "6")), 1010, 10)):
            keeper, _ = kept(AGED, *fields)
            rest = tuple(field for field in fields if field[0] != "age")
            self.assertEqual(keeper.ask(ask(), now), (answer(AGED, *rest, ("age", str(shown))), "kept"), fields)
        keeper, _ = kept(AGED, ("age", "30"))
        self.assertEqual(keeper.ask(ask(), 1030)[1], "fetched")

    def test_great_ages(self):
        keeper, _ = kept(AGED, ("age", "9" * 20))
        # The age counts as it is; what is shown has a bound.
        for now, most, how in ((1000, 2 ** 31, "kept"), (1001, 2 ** 31, "kept")):
            response, told = keeper.ask(ask(control("max-stale")), now)
            self.assertEqual((response[1][-1], told), (("age", str(most)), how))
        keeper, _ = kept(AGED)
        self.assertEqual(keeper.ask(ask(control("max-stale")), 1000 + 2 ** 31 - 1)[0][1][-1], ("age", str(2 ** 31 - 1)))
        self.assertEqual(keeper.ask(ask(control("max-stale")), 1000 + 2 ** 31 + 1)[0][1][-1], ("age", str(2 ** 31)))

    def test_other_statuses_and_trailers(self):
        origin = Told(((404, (AGED,), (1,), (("t", "v"),)),))
        keeper = Keeper(origin, 5)
        keeper.ask(ask(), 0)
        self.assertEqual(keeper.ask(ask(), 3), ((404, (AGED, ("age", "3")), (1,), (("t", "v"),)), "kept"))

    def test_use_counts(self):
        keeper = Keeper(Told((answer(AGED),)), 2)
        for now, target in enumerate(("/a", "/b", "/a", "/c", "/a", "/b")):
            keeper.ask(ask(target=target), now)
        self.assertEqual([entry[0] for entry in keeper.entries()], [octets("/a"), octets("/b")])

    def test_no_room(self):
        keeper = Keeper(Told((answer(AGED),)), 0)
        self.assertEqual([keeper.ask(ask(), now)[1] for now in range(3)], ["fetched"] * 3)
        self.assertEqual(keeper.entries(), [])


class ShownTest(unittest.TestCase):
    FIELDS = (("vary", "b"), AGED, ("x", "y"), TAG, ("date", write_date(1000)), ("expires", "0"), ("last-modified", write_date(500)), ("content-type", "a/b"))
    SHORT = (("vary", "b"), AGED, TAG, ("date", write_date(1000)), ("expires", "0"), ("last-modified", write_date(500)), ("age", "7"))

    def test_conditions_of_the_request(self):
        for fields, unchanged in (
            ((), False), ((("if-none-match", '"x"'),), True), ((("if-none-match", 'W/"x"'),), True), ((("if-none-match", '"y", "x"'),), True),
            ((("if-none-match", "*"),), True), ((("if-none-match", '"y"'),), False), ((("if-modified-since", write_date(500)),), True),
            ((("if-modified-since", write_date(499)),), False), ((("if-modified-since", write_date(9999)),), True), ((("if-modified-since", "x"),), False),
            ((("if-none-match", '"y"'), ("if-modified-since", write_date(500))), False), ((("if-none-match", '"y"'), ("if-none-match", '"x"')), True),
        ):
            keeper, origin = kept(*self.FIELDS)
            response = (304, self.SHORT, (), ()) if unchanged else answer(*self.FIELDS, ("age", "7"))
            self.assertEqual(keeper.ask(ask(*fields), 1007), (response, "kept"), fields)
            self.assertEqual(len(origin.asked()), 1)

    def test_what_cannot_be_read_is_not_there(self):
        day = ("last-modified", write_date(500))
        for fields, condition, unchanged in (
            ((TAG, TAG), ("if-none-match", '"x"'), False), ((TAG, TAG), ("if-none-match", "*"), False), ((day, day), ("if-modified-since", write_date(500)), False),
            ((("last-modified", "x"),), ("if-modified-since", write_date(500)), False), ((), ("if-none-match", "*"), False), ((day,), ("if-none-match", "*"), False),
            ((("etag", "x"), day), ("if-modified-since", write_date(500)), True), ((("etag", 'W/"x"'),), ("if-none-match", '"x"'), True),
        ):
            keeper, _ = kept(AGED, *fields)
            response, how = keeper.ask(ask(condition), 1000)
            self.assertEqual((response[0], how), (304 if unchanged else 200, "kept"), (fields, condition))

    def test_fields_that_come_again(self):
        keeper, _ = kept(AGED, ("vary", "b"), TAG, ("vary", "c"))
        self.assertEqual(keeper.ask(ask(("if-none-match", "*")), 1000), ((304, (AGED, ("vary", "b"), TAG, ("vary", "c"), ("age", "0")), (), ()), "kept"))


class RefusedTest(unittest.TestCase):
    def test_only_if_cached(self):
        refusal = ((504, (("date", write_date(1060)),), (), ()), "refused")
        keeper, origin = kept(AGED, TAG)
        self.assertEqual(keeper.ask(ask(control("only-if-cached")), 1060), refusal)
        self.assertEqual(keeper.ask(ask(control("Only-If-Cached=x"), target="/b"), 1060), refusal)
        self.assertEqual(keeper.ask(ask(control("only-if-cached, max-stale")), 1060)[1], "kept")
        self.assertEqual(keeper.ask(ask(control("only-if-cached, no-cache")), 1060), refusal)
        self.assertEqual(len(origin.asked()), 1)
        self.assertEqual(len(keeper.entries()), 1)

    def test_while_it_is_fresh(self):
        keeper, _ = kept(AGED)
        self.assertEqual(keeper.ask(ask(control("only-if-cached")), 1059)[1], "kept")

    def test_what_is_passed_on_is_not_refused(self):
        keeper, _ = kept(AGED)
        self.assertEqual(keeper.ask(ask(control("only-if-cached, no-store")), 1060)[1], "fetched")
        self.assertEqual(keeper.ask(ask(control("only-if-cached"), method="HEAD"), 1060)[1], "fetched")


class CheckedTest(unittest.TestCase):
    DAY = ("last-modified", write_date(500))

    def test_what_is_asked(self):
        for fields, condition in (
            ((TAG,), ("if-none-match", '"x"')), ((("etag", 'W/"x"'),), ("if-none-match", 'W/"x"')), ((self.DAY,), ("if-modified-since", write_date(500))),
            ((self.DAY, TAG), ("if-none-match", '"x"')), ((self.DAY, ("etag", "x")), ("if-modified-since", write_date(500))),
            ((self.DAY, TAG, TAG), ("if-modified-since", write_date(500))),
            ((("last-modified", "Thursday, 01-Jan-70 00:08:20 GMT"),), ("if-modified-since", "Thursday, 01-Jan-70 00:08:20 GMT")),
        ):
            keeper, origin = kept(AGED, *fields, more=(answer(("n", "1"), status=304),))
            response, how = keeper.ask(ask(("q", "1")), 1060)
            self.assertEqual(how, "checked")
            self.assertEqual(origin.asked()[1:], [(ask(("q", "1"), condition), 1060)])
            self.assertEqual(response, answer(AGED, *fields, ("n", "1"), ("age", "0")))
            self.assertEqual(keeper.entries(), [(octets("/a"), (HOST,), answer(AGED, *fields, ("n", "1")), 1060, 1060)])
            # It is fresh again.
            self.assertEqual(keeper.ask(ask(), 1119)[1], "kept")

    def test_a_304_may_change_fields(self):
        keeper, _ = kept(AGED, TAG, ("content-type", "a/b"), more=(answer(control("max-age=5"), ("etag", '"y"'), ("content-type", "c/d"), ("age", "2"), status=304),))
        self.assertEqual(keeper.ask(ask(), 1060), (answer(("content-type", "a/b"), control("max-age=5"), ("etag", '"y"'), ("age", "2")), "checked"))
        self.assertEqual(keeper.ask(ask(), 1062), (answer(("content-type", "a/b"), control("max-age=5"), ("etag", '"y"'), ("age", "4")), "kept"))
        self.assertEqual(keeper.ask(ask(), 1063)[1], "fetched")

    def test_another_answer(self):
        for status, fields, is_kept in ((200, (AGED,), True), (404, (AGED,), True), (200, (), False), (500, (AGED,), False), (200, (AGED, control("no-store")), False)):
            keeper, origin = kept(AGED, TAG, more=(answer(*fields, status=status, body="new"),))
            before = keeper.entries()
            self.assertEqual(keeper.ask(ask(("q", "1")), 1060), (answer(*fields, status=status, body="new"), "fetched"))
            # It is kept for the request without the added field; the old entry stays if it is not kept.
            new = (octets("/a"), (HOST, ("q", "1")), answer(*fields, status=status, body="new"), 1060, 1060)
            self.assertEqual(keeper.entries(), [new] if is_kept else before)
            self.assertEqual(len(origin.asked()), 2)

    def test_it_is_asked_whenever_it_is_not_usable(self):
        for now, value in ((1000, "no-cache"), (1005, "max-age=4"), (1005, "min-fresh=55"), (1070, "max-stale=9")):
            keeper, _ = kept(AGED, TAG, more=(answer(status=304),))
            self.assertEqual(keeper.ask(ask(control(value)), now)[1], "checked")
        keeper, _ = kept(control("no-cache"), TAG, more=(answer(status=304),))
        self.assertEqual(keeper.ask(ask(), 1000)[1], "checked")

    def test_what_is_checked_counts_as_put(self):
        origin = Told((answer(AGED, TAG), answer(AGED, TAG), answer(status=304)))
        keeper = Keeper(origin, 2)
        keeper.ask(ask(target="/a"), 0)
        keeper.ask(ask(target="/b"), 30)
        self.assertEqual(keeper.ask(ask(target="/a"), 60)[1], "checked")
        self.assertEqual([entry[0] for entry in keeper.entries()], [octets("/b"), octets("/a")])

    def test_nothing_to_check_with(self):
        keeper, origin = kept(AGED, ("etag", "x"))
        self.assertEqual(keeper.ask(ask(), 1060), (answer(status=299), "fetched"))
        self.assertEqual(origin.asked()[1:], [(ask(), 1060)])


class FetchedTest(unittest.TestCase):
    def test_what_may_be_kept(self):
        for fields, status, is_kept in (((AGED,), 200, True), ((AGED,), 404, True), ((), 200, False), ((TAG,), 200, True), ((AGED,), 302, False), ((AGED, ("vary", "*")), 200, False)):
            origin = Told((answer(*fields, status=status),))
            keeper = Keeper(origin, 5)
            self.assertEqual(keeper.ask(ask(), 7), (answer(*fields, status=status), "fetched"))
            self.assertEqual(origin.asked(), [(ask(), 7)])
            self.assertEqual(keeper.entries(), [(octets("/a"), (HOST,), answer(*fields, status=status), 7, 7)] if is_kept else [])

    def test_conditions_of_the_request_go_on(self):
        for condition in (("if-none-match", '"z"'), ("if-modified-since", write_date(0))):
            keeper, origin = kept(AGED, TAG, more=(answer(AGED, status=200, body="new"),))
            self.assertEqual(keeper.ask(ask(condition), 1060), (answer(AGED, body="new"), "fetched"))
            self.assertEqual(origin.asked()[1:], [(ask(condition), 1060)])
            self.assertEqual(keeper.entries(), [(octets("/a"), (HOST, condition), answer(AGED, body="new"), 1060, 1060)])

    def test_a_304_for_such_a_request(self):
        for old, new, matches in (('"x"', '"x"', True), ('"x"', '"y"', False), ('W/"x"', '"x"', False), ('"x"', 'W/"x"', False), ('W/"x"', 'W/"x"', False),
                                  ('"x"', "x", False), ('"x"', None, False), ("x", "x", False), ("x", '"x"', False)):
            fields = () if new is None else (("etag", new),)
            answered = answer(*fields, ("n", "1"), status=304, body="")
            keeper, origin = kept(AGED, ("etag", old), more=(answered,))
            before = keeper.entries()
            self.assertEqual(keeper.ask(ask(("if-none-match", '"x"')), 1060), (answered, "fetched"))
            fresh = [(octets("/a"), (HOST,), answer(AGED, ("etag", new), ("n", "1")), 1060, 1060)]
            self.assertEqual(keeper.entries(), fresh if matches else before, (old, new))

    def test_another_answer_with_the_same_tag(self):
        """It freshens nothing: only a 304 does."""
        keeper, _ = kept(AGED, TAG, more=(answer(TAG, control("no-store"), body="new"),))
        before = keeper.entries()
        self.assertEqual(keeper.ask(ask(("if-none-match", '"z"')), 1060)[1], "fetched")
        self.assertEqual(keeper.entries(), before)

    def test_tags_that_come_twice(self):
        keeper, _ = kept(AGED, TAG, more=(answer(TAG, TAG, status=304),))
        before = keeper.entries()
        keeper.ask(ask(("if-none-match", '"x"')), 1060)
        self.assertEqual(keeper.entries(), before)

    def test_a_304_without_an_entry(self):
        keeper = Keeper(Told((answer(TAG, AGED, status=304),)), 5)
        self.assertEqual(keeper.ask(ask(("if-none-match", '"x"')), 0), (answer(TAG, AGED, status=304), "fetched"))
        self.assertEqual(keeper.entries(), [])

    def test_a_304_that_nobody_asked_for(self):
        keeper, _ = kept(AGED, more=(answer(status=304),))
        before = keeper.entries()
        self.assertEqual(keeper.ask(ask(), 1060), (answer(status=304), "fetched"))
        self.assertEqual(keeper.entries(), before)

    def test_other_keys(self):
        two = answer(AGED, ("vary", "v"), body="two")
        keeper, _ = kept(AGED, ("vary", "v"), more=(two, answer(AGED, body="three")))
        self.assertEqual(keeper.ask(ask(("v", "1")), 1001), (two, "fetched"))
        self.assertEqual(keeper.ask(ask(), 1002)[0][2], octets("hi"))
        self.assertEqual(keeper.ask(ask(("v", "1")), 1003)[0][2], octets("two"))
        # What does not vary fits all requests of its host, and it was put last.
        self.assertEqual(keeper.ask(ask(("v", "2")), 1004)[0][2], octets("three"))
        self.assertEqual(keeper.ask(ask(("v", "1")), 1005), (answer(AGED, ("age", "1"), body="three"), "kept"))
        self.assertEqual(keeper.ask(("GET", octets("/a"), (("host", "x"),), (), ()), 1006)[1], "fetched")

    def test_an_entry_without_a_condition_is_replaced(self):
        keeper, _ = kept(AGED, more=(answer(AGED, body="new"),))
        keeper.ask(ask(), 1060)
        self.assertEqual([entry[2][2] for entry in keeper.entries()], [octets("new")])


class HouseTest(unittest.TestCase):
    """The example, and what [5.8] gives the keeper to judge."""

    def house(self, keep):
        return House(((octets("/a"), keep, (("text/plain", "", octets("hi"), "x", 0),)),))

    def test_example(self):
        keeper = Keeper(self.house(60), 5)
        first, how = keeper.ask(ask(), 100)
        self.assertEqual((first[0], how), (200, "fetched"))
        self.assertEqual(keeper.ask(ask(), 130), ((200, first[1] + (("age", "30"),), first[2], ()), "kept"))
        response, how = keeper.ask(ask(), 160)
        self.assertEqual((response[0], response[2], how), (200, octets("hi"), "checked"))
        self.assertIn(("age", "0"), response[1])
        self.assertIn(("date", write_date(160)), response[1])

    def test_a_changed_page(self):
        house = self.house(60)
        keeper = Keeper(house, 5)
        keeper.ask(ask(), 100)
        house.answer(ask(("content-type", "text/plain"), method="PUT", body="new"), 110)
        self.assertEqual(keeper.ask(ask(), 120)[0][2], octets("hi"))
        response, how = keeper.ask(ask(), 160)
        self.assertEqual((response[2], how), (octets("new"), "fetched"))
        # What goes through the keeper is seen at once.
        keeper.ask(ask(("content-type", "text/plain"), method="PUT", body="newest"), 170)
        self.assertEqual(keeper.ask(ask(), 171)[0][2], octets("newest"))

    def test_keeps(self):
        for keep, hows in ((-1, ["fetched"] * 3), (-2, ["fetched", "checked", "checked"]), (0, ["fetched", "checked", "checked"]), (1, ["fetched", "kept", "checked"])):
            keeper = Keeper(self.house(keep), 5)
            self.assertEqual([keeper.ask(ask(), now)[1] for now in (100, 100, 101)], hows, keep)


if __name__ == "__main__":
    unittest.main()
