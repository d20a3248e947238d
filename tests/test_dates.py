import datetime
import random
import unittest

from ownanswer.dates import read_date, write_date

START = datetime.datetime(1970, 1, 1)
LAST = 253402300799
NOW = 1500000000
FULL = ("Monday", "Tuesday", "Wednesday", "Thursday", "Friday", "Saturday", "Sunday")
MONTHS = ("Jan", "Feb", "Mar", "Apr", "May", "Jun", "Jul", "Aug", "Sep", "Oct", "Nov", "Dec")


def moment(time):
    return START + datetime.timedelta(days=time // 86400, seconds=time % 86400)


def seconds(*parts):
    """The time of (year, month, day, hour, minute, second)."""
    span = datetime.datetime(*parts) - START
    return span.days * 86400 + span.seconds


def forms(time):
    """The three forms of a time, made by another way."""
    at = moment(time)
    day, month, clock = FULL[at.weekday()], MONTHS[at.month - 1], f"{at:%H:%M:%S}"
    return (
        f"{day[:3]}, {at.day:02d} {month} {at.year} {clock} GMT",
        f"{day}, {at.day:02d}-{month}-{at.year % 100:02d} {clock} GMT",
        f"{day[:3]} {month} {at.day:2d} {clock} {at.year}",
    )


def times():
    chance = random.Random(45)
    found = [0, 1, 59, 60, 3599, 3600, 86399, 86400, LAST, LAST - 86400, 951782399, 951782400, 951868800]
    for year in (1972, 1999, 2000, 2001, 2016, 2017, 2024, 2099, 2100, 2101, 2400, 4000, 9996, 9999):
        for month, day in ((1, 1), (2, 28), (3, 1), (12, 31)):
            found += [seconds(year, month, day, 0, 0, 0), seconds(year, month, day, 23, 59, 59)]
    return found + [chance.randrange(LAST + 1) for _ in range(400)]


class WriteTest(unittest.TestCase):
    def test_example(self):
        self.assertEqual(write_date(1488603967), "Sat, 04 Mar 2017 05:06:07 GMT")

    def test_ends(self):
        self.assertEqual(write_date(0), "Thu, 01 Jan 1970 00:00:00 GMT")
        self.assertEqual(write_date(LAST), "Fri, 31 Dec 9999 23:59:59 GMT")

    def test_leap_years(self):
        self.assertEqual(write_date(951782400), "Tue, 29 Feb 2000 00:00:00 GMT")
        self.assertEqual(write_date(seconds(2100, 2, 28, 0, 0, 0) + 86400), "Mon, 01 Mar 2100 00:00:00 GMT")
        self.assertEqual(write_date(seconds(2024, 2, 28, 1, 2, 3) + 86400), "Thu, 29 Feb 2024 01:02:03 GMT")

    def test_many(self):
        for time in times():
            self.assertEqual(write_date(time), forms(time)[0])

    def test_each_day_of_some_years(self):
        for year in (1970, 2000, 2023, 2024, 2100):
            first = seconds(year, 1, 1, 12, 34, 56)
            for day in range(366):
                self.assertEqual(write_date(first + day * 86400), forms(first + day * 86400)[0])


class ReadTest(unittest.TestCase):
    def test_example(self):
        self.assertEqual(read_date("Saturday, 04-Mar-17 05:06:07 GMT", 2000000000), 1488603967)

    def test_three_forms(self):
        self.assertEqual(read_date("Sat, 04 Mar 2017 05:06:07 GMT", 0), 1488603967)
        self.assertEqual(read_date("Saturday, 04-Mar-17 05:06:07 GMT", NOW), 1488603967)
        self.assertEqual(read_date("Sat Mar  4 05:06:07 2017", 0), 1488603967)
        self.assertEqual(read_date("Tue Mar 14 05:06:07 2017", 0), 1489467967)

    def test_what_is_written_is_read(self):
        for time in times():
            fixed, dashed, spaced = forms(time)
            self.assertEqual(read_date(fixed, NOW), time)
            self.assertEqual(read_date(spaced, NOW), time)
            self.assertEqual(read_date(dashed, min(time, LAST)), time)

    def dashed(self, *parts):
        return forms(seconds(*parts, 1, 2, 3))[1]

    def test_years_of_two_digits(self):
        for now_year in (1999, 2000, 2017, 2049, 2050, 2099, 2345, 9900, 9940):
            for now in (seconds(now_year, 1, 1, 0, 0, 0), seconds(now_year, 12, 31, 23, 59, 59)):
                for year in range(now_year - 49, now_year + 51):
                    wanted = seconds(year, 5, 6, 1, 2, 3) if year >= 1970 else None
                    text = self.dashed(year, 5, 6)
                    self.assertEqual(read_date(text, now), wanted, (text, now_year))

    def test_fifty_years_ahead_and_one_more(self):
        now = seconds(2017, 6, 1, 0, 0, 0)
        self.assertEqual(read_date(self.dashed(2067, 12, 31), now), seconds(2067, 12, 31, 1, 2, 3))
        # With 51 years ahead it is the year of a hundred years before, which had other days.
        self.assertIsNone(read_date(self.dashed(2068, 1, 1), now))
        self.assertIsNone(read_date(self.dashed(1968, 1, 1), now))
        self.assertEqual(read_date(self.dashed(1970, 1, 1), now), seconds(1970, 1, 1, 1, 2, 3))

    def test_years_that_are_too_great(self):
        self.assertIsNone(read_date("Monday, 01-Jan-01 01:02:03 GMT", LAST))
        self.assertIsNone(read_date("Saturday, 01-Jan-00 01:02:03 GMT", LAST))
        self.assertEqual(read_date(self.dashed(9999, 12, 31), LAST - 50 * 366 * 86400), seconds(9999, 12, 31, 1, 2, 3))

    def test_wrong_day_of_the_week(self):
        for form in range(3):
            text = forms(1488603967)[form]
            for day in FULL:
                shown = day if form == 1 else day[:3]
                old = "Saturday" if form == 1 else "Sat"
                wanted = 1488603967 if day == "Saturday" else None
                self.assertEqual(read_date(shown + text[len(old):], NOW), wanted)

    def one_of_each_day(self, rest):
        """What is read for each day of the week in front of the rest of a fixed form."""
        return [read_date(f"{day[:3]}, {rest}", NOW) for day in FULL]

    def test_days_beyond_the_month(self):
        for month, days in zip(MONTHS, (31, 28, 31, 30, 31, 30, 31, 31, 30, 31, 30, 31)):
            for day in range(0, 40):
                found = self.one_of_each_day(f"{day:02d} {month} 2017 00:00:00 GMT")
                self.assertEqual(len([time for time in found if time is not None]), 1 if 1 <= day <= days else 0, (month, day))
        for year, leap in ((1972, 1), (2000, 1), (2100, 0), (2024, 1), (2023, 0), (2400, 1), (2200, 0)):
            found = self.one_of_each_day(f"29 Feb {year} 00:00:00 GMT")
            self.assertEqual(len([time for time in found if time is not None]), leap, year)

    def test_clocks(self):
        for clock, good in (("00:00:00", True), ("23:59:59", True), ("24:00:00", False), ("23:60:00", False),
                            ("23:59:60", False), ("99:00:00", False)):
            for text in (f"Sat, 04 Mar 2017 {clock} GMT", f"Saturday, 04-Mar-17 {clock} GMT", f"Sat Mar  4 {clock} 2017"):
                self.assertIs(read_date(text, NOW) is not None, good, text)

    def test_years_out_of_bounds(self):
        self.assertEqual(read_date("Thu, 01 Jan 1970 00:00:00 GMT", NOW), 0)
        self.assertIsNone(read_date("Wed, 31 Dec 1969 23:59:59 GMT", NOW))
        self.assertIsNone(read_date("Wed Dec 31 23:59:59 1969", NOW))
        self.assertEqual(read_date("Fri Dec 31 23:59:59 9999", NOW), LAST)
        for year in ("0000", "0017", "10000", "197", "19700"):
            self.assertEqual([time for time in self.one_of_each_day(f"01 Jan {year} 00:00:00 GMT") if time is not None], [])

    def test_other_spellings(self):
        for text in (
            "", "Sat", "Sat,", "Saturday, ", "Sat ", "sat, 04 Mar 2017 05:06:07 GMT", "SAT, 04 Mar 2017 05:06:07 GMT",
            "Sat, 4 Mar 2017 05:06:07 GMT", "Sat,  4 Mar 2017 05:06:07 GMT", "Sat, 04 mar 2017 05:06:07 GMT",
            "Sat, 04 March 2017 05:06:07 GMT", "Sat, 04 Mar 17 05:06:07 GMT", "Sat, 04 Mar 2017 5:06:07 GMT",
            "Sat, 04 Mar 2017 05:06:07", "Sat, 04 Mar 2017 05:06:07 gmt", "Sat, 04 Mar 2017 05:06:07 UTC",
            "Sat, 04 Mar 2017 05:06:07 +0000", "Sat, 04 Mar 2017 05:06:07 GMT ", " Sat, 04 Mar 2017 05:06:07 GMT",
            "Sat 04 Mar 2017 05:06:07 GMT", "Sat,04 Mar 2017 05:06:07 GMT", "Sat, 04-Mar-2017 05:06:07 GMT",
            "Sat, 04 Mar 2017 05-06-07 GMT", "Sat, 04 Mar 2017  5:06:07 GMT", "Sat, 04 Mar 2017 05:06 GMT",
            "Saturday, 04 Mar 2017 05:06:07 GMT", "Saturday, 04-Mar-2017 05:06:07 GMT", "Sat, 04-Mar-17 05:06:07 GMT",
            "Saturday, 4-Mar-17 05:06:07 GMT", "Saturday,  4-Mar-17 05:06:07 GMT", "Saturday 04-Mar-17 05:06:07 GMT",
            "Saturday, 04-Mar-17 05:06:07", "saturday, 04-Mar-17 05:06:07 GMT", "Saturday, 04-Mar-+7 05:06:07 GMT",
            "Sat Mar 04 05:06:07 2017", "Sat Mar 4 05:06:07 2017", "Sat Mar  4 05:06:07 2017 ", "Sat Mar  4 05:06:07 17",
            "Sat Mar  4 05:06:07 GMT 2017", "Sat, Mar  4 05:06:07 2017", "Sat Mar   4 05:06:07 2017",
            "Tue Mar 1  05:06:07 2017", "Sat Mar  4 05:06:07 2017 GMT", "Sat, +4 Mar 2017 05:06:07 GMT",
            "Sat, 04 Mar 2017 05:06:007 GMT", "Sat, 04 Mar 2017 005:6:07 GMT", "Sat, 04 Mar 2017 05:06:07:GMT",
        ):
            self.assertIsNone(read_date(text, NOW), text)

    def test_one_changed_sign(self):
        for form, text in enumerate(forms(1488603967)):
            for at in range(len(text)):
                for sign in " ,:-aZ0459G":
                    changed = text[:at] + sign + text[at + 1:]
                    found = read_date(changed, NOW)
                    if found is not None:
                        self.assertEqual(forms(found)[form], changed)
                self.assertIsNone(read_date(text[:at] + text[at + 1:], NOW), text[:at])
                self.assertIsNone(read_date(text[:at], NOW))


if __name__ == "__main__":
    unittest.main()
