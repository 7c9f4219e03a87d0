import itertools
import math
import random
from fractions import Fraction

from fleetpath import portions
from fleetpath.portions import NoFraction, below, ceiling, fraction, minus, plus, together
from tests.helper import Case

SMALL = range(-12, 13)
GREAT = (10 ** 299, 10 ** 300 - 1, -(10 ** 299) - 7, 2 ** 600, 3 ** 400, -(2 ** 500) * 3 ** 100)


def as_tuple(number):
    return (number.numerator, number.denominator)


def small_fractions():
    return sorted({Fraction(top, bottom) for top in SMALL for bottom in range(1, 8)})


def random_fraction(source, figures):
    return Fraction(source.randint(-(10 ** figures), 10 ** figures), source.randint(1, 10 ** figures))


class Errors(Case):
    def test_classes(self):
        self.assert_error_classes(portions, {"NoFraction": ["top"]})


class Made(Case):
    def assert_made(self, top, bottom):
        told = fraction(top, bottom)
        self.assertIs(type(told), tuple)
        self.assertEqual(told, as_tuple(Fraction(top, bottom)))
        self.assertGreaterEqual(told[1], 1)
        self.assertEqual(math.gcd(*told), 1)

    def test_small_numbers_of_either_sign(self):
        for top, bottom in itertools.product(SMALL, SMALL):
            if bottom != 0:
                self.assert_made(top, bottom)

    def test_known_fractions(self):
        for top, bottom, told in (
            (6, -4, (-3, 2)), (-6, 4, (-3, 2)), (-6, -4, (3, 2)), (6, 4, (3, 2)), (1, 1, (1, 1)), (-1, -1, (1, 1)),
            (0, 1, (0, 1)), (0, -1, (0, 1)), (0, 77, (0, 1)), (0, -(10 ** 299), (0, 1)), (8, 4, (2, 1)),
            (8, -4, (-2, 1)),
        ):
            self.assertEqual(fraction(top, bottom), told)

    def test_many_figures(self):
        for top, bottom in itertools.product(GREAT + (1, -1, 0, 6), GREAT + (1, -1, 6)):
            self.assert_made(top, bottom)
        source = random.Random(60)
        for _ in range(100):
            common = source.randint(1, 10 ** 140)
            top, bottom = source.randint(-(10 ** 150), 10 ** 150), source.randint(1, 10 ** 150)
            self.assert_made(top * common, bottom * common)
            self.assert_made(top * common, -bottom * common)

    def test_over_nought(self):
        for top in (0, 1, -1, 10 ** 299, -(10 ** 299)):
            self.assert_refused(NoFraction, {"top": top}, fraction, top, 0)


class Reckoned(Case):
    def assert_pair(self, one, other):
        first, second = as_tuple(one), as_tuple(other)
        self.assertEqual(plus(first, second), as_tuple(one + other))
        self.assertEqual(minus(first, second), as_tuple(one - other))
        self.assertIs(below(first, second), one < other)
        self.assertEqual(together([first, second]), as_tuple(one + other))

    def test_small_fractions(self):
        for one, other in itertools.product(small_fractions(), repeat=2):
            self.assert_pair(one, other)

    def test_many_figures(self):
        source = random.Random(61)
        for figures in (5, 50, 299):
            for _ in range(40):
                one, other = random_fraction(source, figures), random_fraction(source, figures)
                self.assert_pair(one, other)
                self.assert_pair(one, one)
                self.assert_pair(one, -one)
                self.assert_pair(one, one + Fraction(1, 10 ** figures))

    def test_below_is_narrow(self):
        self.assertIs(below((1, 2), (1, 2)), False)
        self.assertIs(below((0, 1), (0, 1)), False)
        self.assertIs(below((-1, 2), (0, 1)), True)
        self.assertIs(below((-1, 2), (-1, 3)), True)
        self.assertIs(below((-1, 3), (-1, 2)), False)
        self.assertIs(below((10 ** 299, 10 ** 299 + 1), (1, 1)), True)

    def test_ceiling(self):
        for one in small_fractions():
            self.assertEqual(ceiling(as_tuple(one)), math.ceil(one))
        for top, bottom, told in (
            (0, 1, 0), (1, 1, 1), (1, 2, 1), (-1, 2, 0), (-1, 1, -1), (-3, 2, -1), (3, 2, 2), (7, 1, 7),
        ):
            self.assertEqual(ceiling((top, bottom)), told)
        for number in (10 ** 299, -(10 ** 299)):
            self.assertEqual(ceiling((number, 1)), number)
            self.assertEqual(ceiling((3 * number + 1, 3)), number + 1)
            self.assertEqual(ceiling((3 * number - 1, 3)), number)

    def test_together(self):
        self.assertEqual(together([]), (0, 1))
        self.assertEqual(together([(-3, 2)]), (-3, 2))
        self.assertEqual(together([(1, 6), (1, 3), (1, 2)]), (1, 1))
        source = random.Random(62)
        for count in range(12):
            many = [random_fraction(source, source.choice((1, 3, 40))) for _ in range(count)]
            listed = [as_tuple(one) for one in many]
            before = list(listed)
            self.assertEqual(together(listed), as_tuple(sum(many, Fraction(0))))
            self.assertEqual(listed, before)
            listed.append((1, 1))
            self.assertEqual(together(listed), as_tuple(sum(many, Fraction(1))))
