"""Tests of spanforest.rows: points 5, 6 and 7 of the document, and points 1 and 4 as far as they speak of rows."""

import inspect
import unittest

from refusals import MOST, WRONG, RefusalTest
from samples import plain_clumps, plain_deepest, plain_gaps, sample_stretches, sparse_stretches
from spanforest import rows
from spanforest.rows import clumps_of, deepest_of, gaps_of

ASKED = [(low, high) for low in range(-40, 61, 7) for high in range(low, 61, 9)] + [(-50, 60), (-31, 40)]


def small_rows():
    """All rows of up to three stretches with ends from 0 to 3, repeated ones too."""
    kinds = [(low, high, 0) for low in range(4) for high in range(low, 4)]
    found = [[]]
    for one in kinds:
        found.append([one])
        for two in kinds:
            if one <= two:
                found.append([one, two])
                found.extend([[one, two, three] for three in kinds if two <= three])
    return found


def sample_rows():
    """Rows of a few and of up to 150 stretches, some of them with stretches that stand there more than once."""
    found = []
    for count in (1, 2, 3, 5, 8, 13, 21, 50, 100, 150):
        found.append(sorted(sample_stretches(count)))
        found.append(sorted(sparse_stretches(count)))
    found.append(sorted(sample_stretches(30) * 2 + sample_stretches(10)))
    found.append(sorted(sparse_stretches(50) * 3))
    return found


class RowTest(RefusalTest):
    def assert_tuples(self, told, size):
        """Every value told is a tuple of plain integers."""
        self.assertIs(type(told), list)
        for item in told:
            self.assertIs(type(item), tuple)
            self.assertEqual([type(number) for number in item], [int] * size)

    def assert_gaps(self, row, low, high, expected):
        before = list(row)
        told = gaps_of(row, low, high)
        self.assertEqual(told, expected, (row, low, high))
        self.assert_tuples(told, 2)
        self.assertEqual(row, before)

    def assert_clumps(self, row, expected):
        before = list(row)
        told = clumps_of(row)
        self.assertEqual(told, expected, row)
        self.assert_tuples(told, 3)
        self.assertEqual(row, before)

    def assert_deepest(self, row, low, high, expected):
        before = list(row)
        told = deepest_of(row, low, high)
        self.assertEqual(told, expected, (row, low, high))
        self.assert_tuples([told], 2)
        self.assertEqual(row, before)


class TestGaps(RowTest):
    def test_ordinary(self):
        row = [(1, 3, 0), (2, 5, 0), (9, 9, 0), (12, 20, 0)]
        self.assert_gaps(row, 0, 30, [(0, 0), (6, 8), (10, 11), (21, 30)])
        self.assert_gaps(row, 1, 20, [(6, 8), (10, 11)])
        self.assert_gaps(row, 4, 10, [(6, 8), (10, 10)])
        self.assert_gaps(row, 7, 7, [(7, 7)])

    def test_empty_row(self):
        self.assert_gaps([], 3, 8, [(3, 8)])
        self.assert_gaps([], 3, 3, [(3, 3)])
        self.assert_gaps([], -MOST, MOST, [(-MOST, MOST)])

    def test_no_gap(self):
        self.assert_gaps([(1, 9, 0)], 1, 9, [])
        self.assert_gaps([(1, 9, 0)], 4, 4, [])
        self.assert_gaps([(1, 4, 0), (5, 9, 0)], 1, 9, [])

    def test_low_equal_to_high(self):
        self.assert_gaps([(4, 4, 0)], 4, 4, [])
        self.assert_gaps([(4, 4, 0)], 3, 3, [(3, 3)])
        self.assert_gaps([(4, 4, 0)], 5, 5, [(5, 5)])

    def test_all_stretches_ahead_or_behind(self):
        self.assert_gaps([(1, 2, 0), (4, 5, 0)], 6, 9, [(6, 9)])
        self.assert_gaps([(10, 12, 0), (14, 15, 0)], 6, 9, [(6, 9)])
        self.assert_gaps([(1, 2, 0), (10, 12, 0), (14, 15, 0)], 6, 9, [(6, 9)])

    def test_side_by_side_leaves_no_gap_between(self):
        self.assert_gaps([(3, 5, 0), (6, 8, 0)], 1, 10, [(1, 2), (9, 10)])

    def test_one_within_another(self):
        self.assert_gaps([(1, 10, 0), (3, 4, 0)], 0, 12, [(0, 0), (11, 12)])
        self.assert_gaps([(1, 10, 0), (3, 4, 0), (12, 12, 0)], 0, 13, [(0, 0), (11, 11), (13, 13)])

    def test_repeated_and_like_ends(self):
        self.assert_gaps([(2, 3, 0), (2, 3, 0), (2, 3, 1), (6, 6, 0), (6, 6, 0)], 1, 7, [(1, 1), (4, 5), (7, 7)])

    def test_below_nought(self):
        self.assert_gaps([(-9, -7, 0), (-3, 2, 0)], -12, 4, [(-12, -10), (-6, -4), (3, 4)])

    def test_sixty_figures(self):
        row = [(-MOST, -MOST, 0), (-5, 5, 0), (MOST, MOST, MOST)]
        self.assert_gaps(row, -MOST, MOST, [(1 - MOST, -6), (6, MOST - 1)])
        self.assert_gaps([(-MOST, MOST, 0)], -MOST, MOST, [])
        self.assert_gaps([(-MOST, MOST - 1, 0)], -MOST, MOST, [(MOST, MOST)])

    def test_all_small_rows_as_number_by_number(self):
        for row in small_rows():
            for low in range(-1, 5):
                for high in range(low, 5):
                    self.assert_gaps(row, low, high, plain_gaps(row, low, high))

    def test_long_rows_as_number_by_number(self):
        for row in sample_rows():
            for low, high in ASKED:
                self.assert_gaps(row, low, high, plain_gaps(row, low, high))

    def test_no_two_lie_side_by_side(self):
        for row in sample_rows():
            told = gaps_of(row, -400, 700)
            for (_, last), (first, _) in zip(told, told[1:]):
                self.assertGreater(first, last + 1)

    def test_told_list_is_a_new_one(self):
        row = [(3, 5, 0)]
        told = gaps_of(row, 1, 8)
        told.append("more")
        self.assert_gaps(row, 1, 8, [(1, 2), (6, 8)])
        self.assertIsNot(gaps_of([], 1, 8), gaps_of([], 1, 8))


class TestClumps(RowTest):
    def test_ordinary(self):
        row = [(1, 3, 0), (2, 5, 0), (5, 6, 0), (9, 9, 0), (12, 20, 0), (15, 16, 0)]
        self.assert_clumps(row, [(1, 6, 3), (9, 9, 1), (12, 20, 2)])

    def test_empty_row(self):
        self.assert_clumps([], [])

    def test_single(self):
        self.assert_clumps([(4, 7, 2)], [(4, 7, 1)])
        self.assert_clumps([(4, 4, 2)], [(4, 4, 1)])

    def test_led_to_by_others(self):
        self.assert_clumps([(1, 4, 0), (4, 8, 0), (8, 12, 0)], [(1, 12, 3)])
        self.assert_clumps([(1, 20, 0), (2, 3, 0), (18, 25, 0)], [(1, 25, 3)])

    def test_side_by_side_are_two(self):
        self.assert_clumps([(3, 5, 0), (6, 8, 0)], [(3, 5, 1), (6, 8, 1)])
        self.assert_clumps([(1, 5, 0), (2, 3, 0), (6, 8, 0)], [(1, 5, 2), (6, 8, 1)])

    def test_one_within_another(self):
        self.assert_clumps([(1, 9, 0), (2, 3, 0), (5, 6, 0), (9, 9, 0)], [(1, 9, 4)])

    def test_repeated_ones_count_each_time(self):
        self.assert_clumps([(2, 3, 0), (2, 3, 0), (2, 3, 0), (5, 5, 1), (5, 5, 1)], [(2, 3, 3), (5, 5, 2)])

    def test_like_ends_with_unlike_marks(self):
        self.assert_clumps([(2, 3, -1), (2, 3, 0), (2, 3, 7)], [(2, 3, 3)])

    def test_below_nought_and_sixty_figures(self):
        row = [(-MOST, -MOST, 0), (1 - MOST, -9, 0), (-9, MOST - 1, 0), (MOST, MOST, -MOST)]
        self.assert_clumps(row, [(-MOST, -MOST, 1), (1 - MOST, MOST - 1, 2), (MOST, MOST, 1)])

    def test_all_small_rows_as_pair_by_pair(self):
        for row in small_rows():
            self.assert_clumps(row, plain_clumps(row))

    def test_long_rows_as_pair_by_pair(self):
        for row in sample_rows():
            self.assert_clumps(row, plain_clumps(row))

    def test_told_list_is_a_new_one(self):
        row = [(3, 5, 0)]
        told = clumps_of(row)
        told.clear()
        self.assert_clumps(row, [(3, 5, 1)])
        self.assertIsNot(clumps_of([]), clumps_of([]))


class TestDeepest(RowTest):
    def test_ordinary(self):
        row = [(1, 5, 0), (3, 8, 0), (4, 4, 0), (7, 9, 0)]
        self.assert_deepest(row, 0, 10, (3, 4))
        self.assert_deepest(row, 5, 10, (2, 5))
        self.assert_deepest(row, 6, 10, (2, 7))
        self.assert_deepest(row, 0, 2, (1, 1))
        self.assert_deepest(row, 9, 20, (1, 9))

    def test_empty_row(self):
        self.assert_deepest([], 3, 8, (0, 3))
        self.assert_deepest([], -3, -3, (0, -3))
        self.assert_deepest([], -MOST, MOST, (0, -MOST))

    def test_none_holds_a_number_there(self):
        self.assert_deepest([(1, 2, 0), (20, 30, 0)], 3, 19, (0, 3))
        self.assert_deepest([(1, 2, 0)], 3, 19, (0, 3))
        self.assert_deepest([(20, 30, 0)], 3, 19, (0, 3))

    def test_the_least_of_several(self):
        self.assert_deepest([(1, 2, 0), (5, 6, 0), (9, 9, 0)], 0, 10, (1, 1))
        self.assert_deepest([(1, 2, 0), (5, 6, 0), (9, 9, 0)], 2, 10, (1, 2))
        self.assert_deepest([(1, 2, 0), (5, 6, 0), (9, 9, 0)], 3, 10, (1, 5))

    def test_low_equal_to_high(self):
        self.assert_deepest([(4, 4, 0), (4, 6, 0)], 4, 4, (2, 4))
        self.assert_deepest([(4, 4, 0), (4, 6, 0)], 5, 5, (1, 5))
        self.assert_deepest([(4, 4, 0), (4, 6, 0)], 7, 7, (0, 7))

    def test_begun_ahead_of_the_low(self):
        self.assert_deepest([(1, 9, 0), (2, 3, 0), (2, 8, 0), (3, 5, 0)], 6, 20, (2, 6))
        self.assert_deepest([(1, 9, 0), (2, 3, 0), (7, 7, 0)], 4, 20, (2, 7))

    def test_side_by_side_do_not_add_up(self):
        self.assert_deepest([(3, 5, 0), (6, 8, 0)], 1, 10, (1, 3))

    def test_one_within_another(self):
        self.assert_deepest([(1, 9, 0), (3, 4, 0)], 0, 10, (2, 3))

    def test_repeated_and_like_ends(self):
        self.assert_deepest([(1, 5, 0), (2, 3, 0), (2, 3, 0), (2, 3, 1)], 0, 10, (4, 2))

    def test_below_nought_and_sixty_figures(self):
        row = [(-MOST, MOST, 0), (-9, -7, 0), (MOST, MOST, MOST), (MOST, MOST, MOST)]
        self.assert_deepest(row, -MOST, MOST, (3, MOST))
        self.assert_deepest(row, -MOST, MOST - 1, (2, -9))
        self.assert_deepest(row, -MOST, -MOST, (1, -MOST))

    def test_all_small_rows_as_number_by_number(self):
        for row in small_rows():
            for low in range(-1, 5):
                for high in range(low, 5):
                    self.assert_deepest(row, low, high, plain_deepest(row, low, high))

    def test_long_rows_as_number_by_number(self):
        for row in sample_rows():
            for low, high in ASKED:
                self.assert_deepest(row, low, high, plain_deepest(row, low, high))


class TestRefusals(RowTest):
    def test_wrong_low_or_high(self):
        for row in ([], [(-9, 9, 0)]):
            for asking in (gaps_of, deepest_of):
                for wrong in WRONG:
                    self.assert_refused(asking, row, wrong, MOST)
                    self.assert_refused(asking, row, -MOST, wrong)
                    self.assert_refused(asking, row, wrong, wrong)

    def test_low_greater_than_high(self):
        for row in ([], [(-9, 9, 0)]):
            for asking in (gaps_of, deepest_of):
                self.assert_refused(asking, row, 5, 4)
                self.assert_refused(asking, row, -4, -5)
                self.assert_refused(asking, row, MOST, -MOST)

    def test_a_row_with_one_that_is_no_stretch(self):
        for wrong in WRONG:
            for bad in ((wrong, 5, 0), (-5, wrong, 0), (1, 5, wrong)):
                for row in ([bad], [(-9, -8, 0), bad], [bad, (7, 9, 0)]):
                    self.assert_refused(gaps_of, row, 0, 10)
                    self.assert_refused(clumps_of, row)
                    self.assert_refused(deepest_of, row, 0, 10)
        self.assert_refused(gaps_of, [(1, 2, 0), (5, 4, 0)], 0, 10)
        self.assert_refused(clumps_of, [(1, 2, 0), (5, 4, 0)])
        self.assert_refused(deepest_of, [(1, 2, 0), (5, 4, 0)], 0, 10)

    def test_a_refused_row_stays_as_it_is(self):
        row = [(1, 2, 0), (4, 6, 0)]
        for asking in (gaps_of, deepest_of):
            self.assert_refused(asking, row, row, row)
            self.assert_refused(asking, row, 9, 1)
        self.assertEqual(row, [(1, 2, 0), (4, 6, 0)])


class TestInterface(unittest.TestCase):
    def test_each_is_defined_in_its_file(self):
        for name in ("gaps_of", "clumps_of", "deepest_of"):
            self.assertEqual(getattr(rows, name).__module__, "spanforest.rows")

    def test_arguments_have_the_names_of_the_interface(self):
        self.assertEqual(list(inspect.signature(gaps_of).parameters), ["row", "low", "high"])
        self.assertEqual(list(inspect.signature(clumps_of).parameters), ["row"])
        self.assertEqual(list(inspect.signature(deepest_of).parameters), ["row", "low", "high"])

    def test_somewhat_more_than_150_raise_no_error(self):
        row = [(k, k + 2, 0) for k in range(400)]
        self.assertEqual(gaps_of(row, -1, 402), [(-1, -1), (402, 402)])
        self.assertEqual(clumps_of(row), [(0, 401, 400)])
        self.assertEqual(deepest_of(row, -1, 402), (3, 2))


if __name__ == "__main__":
    unittest.main()
