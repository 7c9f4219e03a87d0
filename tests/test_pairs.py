import copy
import itertools
import random

from fleetpath import pairs
from fleetpath.errors import TooMany
from fleetpath.pairs import cover, lacking, matching
from tests.helper import Case, subsets

ASKED = (matching, cover, lacking)


def plain_greatest(rows):
    """How many left things the greatest matching has, by trying everything."""
    def most(lefts, taken):
        if not lefts:
            return 0
        tried = [1 + most(lefts[1:], taken + [right]) for right in set(rows[lefts[0]]) if right not in taken]
        return max(tried + [most(lefts[1:], taken)])

    return most(list(rows), [])


class PairsCase(Case):
    def assert_matching(self, rows):
        given = matching(rows)
        for left, right in given.items():
            self.assertIn(right, rows[left])
        self.assertEqual(len(set(given.values())), len(given))
        return len(given)

    def assert_cover(self, rows, size):
        told = cover(rows)
        self.assertIs(type(told), tuple)
        lefts, rights = told
        self.assertEqual((type(lefts), type(rights)), (list, list))
        self.assertEqual((len(set(lefts)), len(set(rights))), (len(lefts), len(rights)))
        self.assertLessEqual(set(lefts), set(rows))
        self.assertLessEqual(set(rights), {right for listed in rows.values() for right in listed})
        for left, listed in rows.items():
            for right in listed:
                self.assertTrue(left in lefts or right in rights)
        self.assertEqual(len(lefts) + len(rights), size)

    def assert_lacking(self, rows, size):
        told = lacking(rows)
        self.assertIs(type(told), list)
        self.assertEqual(len(set(told)), len(told))
        self.assertLessEqual(set(told), set(rows))
        if size == len(rows):
            self.assertEqual(told, [])
        else:
            rights = {right for left in told for right in rows[left]}
            self.assertEqual(len(told) - len(rights), len(rows) - size)

    def assert_all(self, rows):
        """All three answers; a cover as great as the matching shows that neither could be better."""
        before = copy.deepcopy(rows)
        size = self.assert_matching(rows)
        self.assert_cover(rows, size)
        self.assert_lacking(rows, size)
        self.assertEqual((rows, list(rows)), (before, list(before)))
        return size


class Answers(PairsCase):
    def test_bound(self):
        self.assertEqual(pairs.MOST_LEFTS, 40)

    def test_no_rows(self):
        self.assertEqual((matching({}), cover({}), lacking({})), ({}, ([], []), []))

    def test_empty_lists(self):
        rows = {"a": [], "b": []}
        self.assertEqual((matching(rows), cover(rows)), ({}, ([], [])))
        self.assertEqual(sorted(lacking(rows)), ["a", "b"])
        rows = {"a": [], "b": ["x"]}
        self.assertEqual((matching(rows), lacking(rows)), ({"b": "x"}, ["a"]))
        self.assert_all(rows)

    def test_all_rows_of_four_lefts_and_three_rights(self):
        for lists in itertools.product(list(subsets("xyz")), repeat=4):
            rows = {left: list(listed) for left, listed in enumerate(lists)}
            self.assertEqual(self.assert_all(rows), plain_greatest(rows))

    def test_random_rows_of_many_kinds(self):
        source = random.Random(31)
        for lefts, rights in itertools.product(("abcdef", range(-3, 3)), repeat=2):
            for _ in range(100):
                rows = {
                    left: source.choices(list(rights), k=source.randint(0, 4))
                    for left in source.sample(list(lefts), source.randint(0, 6))
                }
                self.assertEqual(self.assert_all(rows), plain_greatest(rows))

    def test_left_things_equal_to_right_things(self):
        for rows in ({"a": ["a"]}, {"a": ["b"], "b": ["a"]}, {1: [1, 2], 2: [1]}, {"a": ["b"], "b": ["b"]}):
            self.assertEqual(self.assert_all(rows), plain_greatest(rows))

    def test_texts_of_any_signs_and_great_numbers(self):
        self.assertEqual(self.assert_all({"": ["", " "], "\n": [""], "A%\t": [" ", "~"]}), 3)
        self.assertEqual(self.assert_all({-(10 ** 299): [10 ** 299, -1], 0: [-1], 7: [-1]}), 2)

    def test_right_things_more_than_once(self):
        rows = {"a": ["x", "x", "x"], "b": ["x", "x"]}
        self.assertEqual(self.assert_all(rows), 1)
        self.assertEqual(sorted(lacking(rows)), ["a", "b"])

    def test_a_long_way_round(self):
        rows = {left: [left, left + 1] for left in range(39)}
        rows[39] = [0]
        self.assertEqual(self.assert_all(rows), 40)
        rows = {left: [left + 1, left] for left in reversed(range(39))}
        rows[39] = [39]
        self.assertEqual(self.assert_all(rows), 40)

    def test_great_rows(self):
        source = random.Random(32)
        for rights in (5, 30, 39, 40, 60, 1600):
            for most in (1, 2, 3, 40):
                rows = {
                    left: [source.randrange(rights) for _ in range(source.randint(0, most))]
                    for left in range(40)
                }
                self.assert_all(rows)
        self.assertEqual(self.assert_all({left: list(range(40)) for left in range(40)}), 40)
        self.assertEqual(self.assert_all({left: list(range(39)) for left in range(40)}), 39)
        self.assertEqual(self.assert_all({left: list(range(40 * left, 40 * left + 40)) for left in range(40)}), 40)


class TooGreat(PairsCase):
    def test_forty_and_forty_one_left_things(self):
        self.assertEqual(self.assert_all({left: [left] for left in range(40)}), 40)
        for rows in ({left: [left] for left in range(41)}, {left: [] for left in range(41)}):
            for ask in ASKED:
                self.assert_refused(TooMany, {"most": 40}, ask, rows)

    def test_lists_of_forty_and_forty_one(self):
        for listed in (list(range(40)), [0] * 40):
            self.assertEqual(self.assert_all({"a": listed}), 1)
        for listed in (list(range(41)), [0] * 41, [0, 1] * 21):
            for rows in ({"a": listed}, {"a": [], "b": [1], "c": listed}):
                for ask in ASKED:
                    self.assert_refused(TooMany, {"most": 40}, ask, rows)


class Kept(PairsCase):
    def test_changing_what_was_handed_in_or_told(self):
        rows = {"a": ["x", "y"], "b": ["x"], "c": ["y"]}
        given, covered, lacks = matching(rows), cover(rows), lacking(rows)
        told = copy.deepcopy((given, covered, lacks))
        rows["a"].append("z")
        rows["d"] = ["w"]
        self.assertEqual((given, covered, lacks), told)
        self.assertEqual(self.assert_all(rows), 4)
        before = copy.deepcopy(rows)
        matching(rows).clear()
        cover(rows)[0].append("d")
        cover(rows)[1].clear()
        lacking(rows).append("a")
        self.assertEqual(rows, before)
        self.assertEqual(self.assert_all(rows), 4)

    def test_lists_told_are_no_lists_handed_in(self):
        rows = {"a": ["x"], "b": ["x"]}
        lefts, rights = cover(rows)
        rights.clear()
        lefts.append("q")
        lacking(rows).clear()
        self.assertEqual(rows, {"a": ["x"], "b": ["x"]})
        self.assertEqual(self.assert_all(rows), 1)

    def test_asking_in_another_order(self):
        rows = {"a": ["x"], "b": ["x", "y"], "c": ["y"], "d": []}
        for asked in itertools.permutations(ASKED):
            for ask in asked + asked:
                ask(rows)
            self.assertEqual(self.assert_all(rows), 2)
