from fleetpath.clock import read, shown
from fleetpath.errors import LIMIT, BadNumber, BadTime
from tests.helper import Case

KNOWN = {
    0: "0.00:00",
    1: "0.00:01",
    9: "0.00:09",
    10: "0.00:10",
    59: "0.00:59",
    60: "0.01:00",
    599: "0.09:59",
    600: "0.10:00",
    1439: "0.23:59",
    1440: "1.00:00",
    1441: "1.00:01",
    9 * 1440 + 1439: "9.23:59",
    10 * 1440: "10.00:00",
    1440 * 123 + 60 * 4 + 5: "123.04:05",
    1440 * 100000: "100000.00:00",
    LIMIT - 1: "694444.10:39",
    LIMIT: "694444.10:40",
}


class Shown(Case):
    def test_known_times(self):
        for minute, text in KNOWN.items():
            self.assertEqual(shown(minute), text)

    def test_out_of_bounds(self):
        for minute in (-1, -1440, -(10 ** 299), LIMIT + 1, 10 ** 299):
            self.assert_refused(BadNumber, {"value": minute}, shown, minute)


class Read(Case):
    def assert_bad(self, text):
        self.assert_refused(BadTime, {"text": text}, read, text)

    def test_known_times(self):
        for minute, text in KNOWN.items():
            self.assertEqual(read(text), minute)

    def test_every_minute_of_three_days_and_some_far_ones(self):
        for minute in list(range(3 * 1440)) + list(range(0, LIMIT, 999983)):
            self.assertEqual(read(shown(minute)), minute)

    def test_signs_left_out_put_in_or_changed(self):
        for text in KNOWN.values():
            for place in range(len(text)):
                self.assert_same_or_bad(text[:place] + text[place + 1:])
                for number in range(128):
                    self.assert_same_or_bad(text[:place] + chr(number) + text[place + 1:])
                    self.assert_same_or_bad(text[:place] + chr(number) + text[place:])
            for number in range(128):
                self.assert_same_or_bad(text + chr(number))

    def assert_same_or_bad(self, text):
        """What is read is one of the times shown as that very text, found without the program's reading."""
        minute = plain_minute(text)
        if minute is None:
            self.assert_bad(text)
        else:
            self.assertEqual(read(text), minute)

    def test_noughts_ahead_of_the_days(self):
        for text in ("00.00:00", "01.00:00", "000001.00:00", "0694444.10:4", "000000.00:00"):
            self.assert_bad(text)

    def test_hours_and_minutes_too_great(self):
        for text in ("0.24:00", "0.23:60", "0.99:00", "0.00:99", "1.24:00", "694443.24:00"):
            self.assert_bad(text)

    def test_above_the_limit(self):
        for text in ("694444.10:41", "694444.11:00", "694445.00:00", "999999.23:59", "1000000.00:00"):
            self.assert_bad(text)

    def test_other_texts(self):
        for text in (
            "", ".", ":", ".:", "0", "0.0:00", "0.00:0", ".00:00", "0.00", "00:00", "0.:00", "0.00:",
            "0:00.00", "0.00.00", "0:00:00", "-0.00:00", "-1.00:00", "+1.00:00", " 0.00:00", "0.00:00 ",
            "0.00:00\n", "\n0.00:00", "0.00:00\t", "0. 0:00", "0.00:+1", "0.-1:00", "1_0.00:00", "0.1_:00",
            "a.00:00", "1e3.00:00", "0x1.00:00",
        ):
            self.assert_bad(text)

    def test_very_long_texts(self):
        for text in ("9" * 10000, "9" * 10000 + ".00:00", "0.00:00" * 1000, " " * 10000, "0" * 9000 + ".00:00"):
            self.assert_bad(text)


def plain_minute(text):
    days, point, rest = text.partition(".")
    hours, colon, minutes = rest.partition(":")
    if not point or not colon or len(hours) != 2 or len(minutes) != 2 or not days:
        return None
    if any(sign not in "0123456789" for sign in days + hours + minutes):
        return None
    if days != "0" and days[0] == "0":
        return None
    if int(hours) > 23 or int(minutes) > 59:
        return None
    minute = int(days) * 1440 + int(hours) * 60 + int(minutes)
    return minute if minute <= LIMIT else None
