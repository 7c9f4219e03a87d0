from fleetpath.checks import check_most, checked_name, checked_new_name, checked_number
from fleetpath.errors import LIMIT, BadName, BadNumber, TooMany, Twice
from tests.helper import Case

GOOD_SIGNS = "abcdefghijklmnopqrstuvwxyz0123456789"


class Names(Case):
    def test_texts_of_one_to_twelve_signs_come_back(self):
        for size in range(1, 13):
            self.assertEqual(checked_name("x" * size), "x" * size)
        self.assertEqual(checked_name("abcdefghij09"), "abcdefghij09")

    def test_empty_and_too_long_texts(self):
        for text in ("", "x" * 13, "x" * 14, "x" * 5000, "X" * 13):
            self.assert_refused(BadName, {"name": text}, checked_name, text)

    def test_every_sign_by_itself_and_at_every_place(self):
        for number in range(128):
            sign = chr(number)
            for text in (sign, sign + "bc", "a" + sign + "c", "ab" + sign, "a" * 11 + sign, sign + "9" * 11):
                if sign in GOOD_SIGNS:
                    self.assertEqual(checked_name(text), text)
                else:
                    self.assert_refused(BadName, {"name": text}, checked_name, text)

    def test_runs_of_bad_signs(self):
        for text in ("  ", "\n", "\t", "A", "ab c", "ab\n", "\nab", "a\tb", "Abc", "aBc", "abC", "z-0", "a_b"):
            self.assert_refused(BadName, {"name": text}, checked_name, text)

    def test_new_names(self):
        self.assertEqual(checked_new_name("b", ["a"]), "b")
        self.assert_refused(Twice, {"name": "a"}, checked_new_name, "a", ["a"])
        self.assert_refused(BadName, {"name": "A"}, checked_new_name, "A", ["A"])


class Numbers(Case):
    def test_numbers_between_come_back(self):
        for least in (-LIMIT, -5, 0, 1, 7, LIMIT):
            for value in (least, (least + LIMIT) // 2, LIMIT - 1, LIMIT):
                if value >= least:
                    self.assertEqual(checked_number(value, least), value)

    def test_numbers_out_of_bounds(self):
        for least in (-LIMIT, -5, 0, 1, 7, LIMIT):
            for value in (least - 1, least - 1000, -(10 ** 299), LIMIT + 1, 10 ** 299):
                self.assert_refused(BadNumber, {"value": value}, checked_number, value, least)


class Most(Case):
    def test_as_many_and_one_more(self):
        self.assertIsNone(check_most([1, 2], 2))
        self.assertIsNone(check_most([], 0))
        self.assert_refused(TooMany, {"most": 2}, check_most, [1, 2, 3], 2)
