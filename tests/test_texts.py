import itertools
import random
import re

from fleetpath import texts as module
from fleetpath.texts import BadLine, BadWord, joined, number_of, words_of
from tests.helper import Case

ASCII = [chr(number) for number in range(128)]
SIGNS = "abcdefghijklmnopqrstuvwxyz0123456789.:"


class Errors(Case):
    def test_classes(self):
        self.assert_error_classes(module, {"BadLine": ["text"], "BadWord": ["text"]})


class Lines(Case):
    def assert_bad(self, line):
        self.assert_refused(BadLine, {"text": line}, words_of, line)

    def test_words(self):
        for line, words in (
            ("a", ["a"]), ("rows", ["rows"]), ("a b", ["a", "b"]), ("tick 0.00:00", ["tick", "0.00:00"]), (".", ["."]),
            (": .", [":", "."]), ("0 00 000", ["0", "00", "000"]),
        ):
            self.assertEqual(words_of(line), words)

    def test_one_sixty_and_sixty_one_words(self):
        for count in (1, 2, 59, 60):
            self.assertEqual(words_of(" ".join(["a"] * count)), ["a"] * count)
        for count in (61, 62, 1000):
            self.assert_bad(" ".join(["a"] * count))

    def test_one_sixteen_and_seventeen_signs(self):
        for count in (1, 15, 16):
            self.assertEqual(words_of("x" * count + " a"), ["x" * count, "a"])
        for line in ("x" * 17, "a " + "x" * 17, "x" * 17 + " a", "x" * 5000):
            self.assert_bad(line)

    def test_blanks(self):
        for line in ("", " ", "  ", " a", "a ", "a  b", "a b ", " a b", "a   b"):
            self.assert_bad(line)

    def test_each_sign_at_each_place(self):
        for sign in ASCII:
            for line in (sign, sign + "ab c", "a" + sign + "b c", "ab" + sign + "c", "ab c" + sign, "ab " + sign + " c"):
                if set(line) <= set(SIGNS + " ") and "  " not in line and line.strip(" ") == line and line:
                    self.assertEqual(words_of(line), line.split())
                else:
                    self.assert_bad(line)

    def test_line_ends_and_tabs(self):
        for line in ("a\n", "\na", "a\nb", "a\tb", "a\t", "a\r", "a\x0b", "a b\n", "a\x00b"):
            self.assert_bad(line)

    def test_against_a_pattern(self):
        source = random.Random(90)
        pattern = re.compile(r"[a-z0-9.:]{1,16}( [a-z0-9.:]{1,16}){0,59}")
        for _ in range(2000):
            line = "".join(source.choices("ab0.: \n", weights=(9, 9, 9, 2, 2, 6, 0.1), k=source.randint(0, 30)))
            if pattern.fullmatch(line):
                self.assertEqual(words_of(line), line.split(" "))
            else:
                self.assert_bad(line)


class Numbers(Case):
    def assert_bad(self, word):
        self.assert_refused(BadWord, {"text": word}, number_of, word)

    def test_one_ten_and_eleven_figures(self):
        for word in ("0", "1", "9", "10", "1000000000", "1000000001", "9999999999", "1234567890"):
            self.assertEqual(number_of(word), int(word))
        for word in ("10000000000", "99999999999", "1" * 5000):
            self.assert_bad(word)

    def test_noughts_ahead(self):
        for word in ("00", "01", "007", "0000000000", "00000000001"):
            self.assert_bad(word)

    def test_other_words(self):
        for word in ("", "a", "1a", "a1", "1.0", "1:0", "-1", "+1", "1_0", " 1", "1 ", "1\n", "\t1", "1e3", "0x1", "none"):
            self.assert_bad(word)

    def test_each_sign_at_each_place(self):
        for sign, word in itertools.product(ASCII, ("{}", "{}12", "1{}2", "12{}")):
            word = word.format(sign)
            if re.fullmatch("0|[1-9][0-9]{0,9}", word):
                self.assertEqual(number_of(word), int(word))
            else:
                self.assert_bad(word)


class Joined(Case):
    def test_read_back(self):
        for first, names in (("row", []), ("row", ["van"]), ("chain", ["a", "b", "0"]), ("x", ["y"] * 59)):
            before = list(names)
            line = joined(first, names)
            self.assertEqual(words_of(line), [first] + names)
            self.assertEqual(names, before)
        self.assertEqual(joined("row", []), "row")
        self.assertEqual(joined("row", ["a", "b"]), "row a b")

    def test_more_words_than_a_line_has(self):
        self.assertEqual(joined("a", ["b"] * 100), "a" + " b" * 100)


class Kept(Case):
    def test_words_told_are_the_askers(self):
        told = words_of("a b")
        told.append("c")
        self.assertEqual(words_of("a b"), ["a", "b"])
