"""Dates: writing one form, reading three."""

from ownanswer.octets import is_digits

DAY = 86400
FIRST_YEAR = 1970
LAST_YEAR = 9999

WEEKDAYS = ("Monday", "Tuesday", "Wednesday", "Thursday", "Friday", "Saturday", "Sunday")
MONTHS = ("Jan", "Feb", "Mar", "Apr", "May", "Jun", "Jul", "Aug", "Sep", "Oct", "Nov", "Dec")
MONTH_DAYS = (31, 28, 31, 30, 31, 30, 31, 31, 30, 31, 30, 31)

# 1970 began on a Thursday, and 477 leap years lie between the years 1 and 1969.
FIRST_WEEKDAY = 3
LEAPS_BEFORE_FIRST = 477


def _is_leap(year):
    return year % 4 == 0 and (year % 100 != 0 or year % 400 == 0)


def _days_of_month(year, month):
    """The days of a month, which is counted from 0."""
    return 29 if month == 1 and _is_leap(year) else MONTH_DAYS[month]


def _days_ahead(year):
    """The days from the beginning of 1970 to that of this year."""
    past = year - 1
    leaps = past // 4 - past // 100 + past // 400 - LEAPS_BEFORE_FIRST
    return (year - FIRST_YEAR) * 365 + leaps


def _year_of(days):
    """The year in which the day with this number is."""
    year = FIRST_YEAR + days // 366
    while _days_ahead(year + 1) <= days:
        year += 1
    return year


def _clock(second):
    """The second of a day as `05:06:07`."""
    minute, rest = divmod(second, 60)
    hour, minute = divmod(minute, 60)
    return f"{hour:02d}:{minute:02d}:{rest:02d}"


def _parts(time):
    """(weekday, year, month, day, clock) of a time, the months counted from 0."""
    days = time // DAY
    year = _year_of(days)
    day = days - _days_ahead(year)
    month = 0
    while day >= _days_of_month(year, month):
        day -= _days_of_month(year, month)
        month += 1
    second = time - days * DAY
    return (WEEKDAYS[(days + FIRST_WEEKDAY) % 7], year, month, day + 1, _clock(second))


def write_date(time):
    """The time as `Sat, 04 Mar 2017 05:06:07 GMT`."""
    weekday, year, month, day, clock = _parts(time)
    return f"{weekday[:3]}, {day:02d} {MONTHS[month]} {year} {clock} GMT"


def _write_dashed(time):
    """The time as `Saturday, 04-Mar-17 05:06:07 GMT`."""
    weekday, year, month, day, clock = _parts(time)
    last_two = year % 100
    return f"{weekday}, {day:02d}-{MONTHS[month]}-{last_two:02d} {clock} GMT"


def _write_spaced(time):
    """The time as `Sat Mar  4 05:06:07 2017`."""
    weekday, year, month, day, clock = _parts(time)
    return f"{weekday[:3]} {MONTHS[month]} {day:>2d} {clock} {year}"


def _read_clock(text):
    """The seconds of `05:06:07`, or None."""
    parts = text.split(":")
    if len(parts) != 3 or not all([is_digits(part) for part in parts]):
        return None
    hour = int(parts[0])
    minute = int(parts[1])
    second = int(parts[2])
    if hour > 23 or minute > 59 or second > 59:
        return None
    return hour * 3600 + minute * 60 + second


def _read_time(year, month, day, clock):
    """The time of a year, the texts of a month, a day and a clock, or None."""
    second = _read_clock(clock)
    if second is None or month not in MONTHS or not is_digits(day):
        return None
    if year < FIRST_YEAR or year > LAST_YEAR:
        return None
    at = MONTHS.index(month)
    if int(day) < 1 or int(day) > _days_of_month(year, at):
        return None
    days = _days_ahead(year) + int(day) - 1
    for past in range(at):
        days += _days_of_month(year, past)
    return days * DAY + second


def _full_year(last_two, now):
    """The latest year with these last digits, at most 50 years after that of now."""
    latest = _year_of(now // DAY) + 50
    return latest - (latest - last_two) % 100


def _read_fixed(text):
    if not is_digits(text[12:16]):
        return None
    time = _read_time(int(text[12:16]), text[8:11], text[5:7], text[17:25])
    # Writing it again tells a right spelling, and a right day of the week.
    return time if time is not None and write_date(time) == text else None


def _read_dashed(text, now):
    rest = text.partition(", ")[2]
    if not is_digits(rest[7:9]):
        return None
    time = _read_time(_full_year(int(rest[7:9]), now), rest[3:6], rest[:2], rest[10:18])
    return time if time is not None and _write_dashed(time) == text else None


def _read_spaced(text):
    if not is_digits(text[20:24]):
        return None
    time = _read_time(int(text[20:24]), text[4:7], text[8:10].lstrip(" "), text[11:19])
    return time if time is not None and _write_spaced(time) == text else None


def read_date(text, now):
    """The time of a date in one of the three forms, or None."""
    if text[3:4] == ",":
        return _read_fixed(text)
    if text[3:4] == " ":
        return _read_spaced(text)
    return _read_dashed(text, now)
