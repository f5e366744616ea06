"""Tests of spanforest.stretches: points 1, 2 and 4 of the document, as far as they speak of a stretch."""

import unittest

from refusals import MOST, WRONG, RefusalTest
from spanforest import stretches
from spanforest.stretches import meet, stretch_of


def held(stretch):
    """The whole numbers that a small stretch holds."""
    return set(range(stretch[0], stretch[1] + 1))


class StretchTest(RefusalTest):
    def assert_meeting(self, one, other, expected):
        self.assertIs(meet(one, other), expected, (one, other))
        self.assertIs(meet(other, one), expected, (other, one))


class TestStretchOf(RefusalTest):
    def assert_told(self, low, high, mark):
        found = stretch_of(low, high, mark)
        self.assertIs(type(found), tuple)
        self.assertEqual(found, (low, high, mark))

    def test_ordinary(self):
        self.assert_told(3, 5, 0)
        self.assert_told(1, 100, 7)
        self.assert_told(0, 1, 2)

    def test_arguments_have_the_names_of_the_interface(self):
        self.assertEqual(stretch_of(mark=3, high=2, low=1), (1, 2, 3))

    def test_low_equal_to_high(self):
        self.assert_told(4, 4, 0)
        self.assert_told(0, 0, 0)

    def test_below_nought(self):
        self.assert_told(-5, -3, -1)
        self.assert_told(-1, 1, -10)
        self.assert_told(-4, -4, 0)

    def test_mark_may_be_greater_or_less_than_both_ends(self):
        self.assert_told(1, 2, 1000)
        self.assert_told(1, 2, -1000)

    def test_sixty_figures(self):
        self.assertEqual(len(str(MOST)), 60)
        self.assert_told(-MOST, MOST, MOST)
        self.assert_told(-MOST, MOST, -MOST)
        self.assert_told(MOST, MOST, 0)
        self.assert_told(-MOST, -MOST, 0)

    def test_wrong_low(self):
        for wrong in WRONG:
            self.assert_refused(stretch_of, wrong, 5, 0)
            self.assert_refused(stretch_of, wrong, MOST, 0)

    def test_wrong_high(self):
        for wrong in WRONG:
            self.assert_refused(stretch_of, -5, wrong, 0)
            self.assert_refused(stretch_of, -MOST, wrong, 0)

    def test_wrong_mark(self):
        for wrong in WRONG:
            self.assert_refused(stretch_of, 1, 5, wrong)
            self.assert_refused(stretch_of, 4, 4, wrong)

    def test_several_wrong_at_once(self):
        for wrong in WRONG:
            self.assert_refused(stretch_of, wrong, wrong, 0)
            self.assert_refused(stretch_of, wrong, wrong, wrong)

    def test_low_greater_than_high(self):
        self.assert_refused(stretch_of, 5, 4, 0)
        self.assert_refused(stretch_of, 5, -5, 0)
        self.assert_refused(stretch_of, -4, -5, 0)
        self.assert_refused(stretch_of, 1, 0, 0)
        self.assert_refused(stretch_of, MOST, -MOST, 0)

    def test_lists_that_are_handed_in_stay_as_they_are(self):
        rows = [3, 1, 2]
        self.assert_refused(stretch_of, rows, rows, rows)
        self.assertEqual(rows, [3, 1, 2])


class TestMeet(StretchTest):
    def test_overlapping(self):
        self.assert_meeting((1, 5, 0), (3, 8, 0), True)

    def test_sharing_one_end(self):
        self.assert_meeting((1, 5, 0), (5, 8, 0), True)
        self.assert_meeting((1, 5, 0), (1, 8, 0), True)
        self.assert_meeting((1, 8, 0), (5, 8, 0), True)

    def test_one_within_the_other(self):
        self.assert_meeting((1, 9, 0), (4, 6, 0), True)
        self.assert_meeting((1, 9, 0), (4, 4, 0), True)

    def test_equal(self):
        self.assert_meeting((3, 5, 0), (3, 5, 0), True)
        same = (3, 5, 0)
        self.assert_meeting(same, same, True)

    def test_marks_alone_differ(self):
        self.assert_meeting((3, 5, 0), (3, 5, 1), True)
        self.assert_meeting((3, 5, MOST), (3, 5, -MOST), True)

    def test_marks_play_no_part(self):
        for one_mark in (-7, 0, 4, 7):
            for other_mark in (-7, 0, 4, 7):
                self.assert_meeting((1, 4, one_mark), (4, 9, other_mark), True)
                self.assert_meeting((1, 4, one_mark), (5, 9, other_mark), False)

    def test_far_apart(self):
        self.assert_meeting((1, 2, 0), (100, 200, 0), False)
        self.assert_meeting((-200, -100, 0), (100, 200, 0), False)

    def test_side_by_side(self):
        self.assert_meeting((3, 5, 0), (6, 8, 0), False)
        self.assert_meeting((-1, -1, 0), (0, 0, 0), False)

    def test_low_equal_to_high(self):
        self.assert_meeting((4, 4, 0), (4, 4, 0), True)
        self.assert_meeting((4, 4, 0), (5, 5, 0), False)
        self.assert_meeting((4, 4, 0), (1, 4, 0), True)
        self.assert_meeting((4, 4, 0), (4, 9, 0), True)

    def test_below_nought(self):
        self.assert_meeting((-8, -5, 0), (-5, -3, 0), True)
        self.assert_meeting((-8, -6, 0), (-5, -3, 0), False)
        self.assert_meeting((-8, 8, 0), (0, 0, 0), True)

    def test_sixty_figures(self):
        self.assert_meeting((-MOST, MOST, 0), (0, 0, 0), True)
        self.assert_meeting((MOST - 1, MOST, 0), (MOST, MOST, 0), True)
        self.assert_meeting((0, MOST - 1, 0), (MOST, MOST, 0), False)
        self.assert_meeting((-MOST, -MOST, 0), (-MOST + 1, 0, 0), False)
        self.assert_meeting((-MOST, -MOST, 0), (MOST, MOST, 0), False)

    def test_all_small_pairs_as_by_their_numbers(self):
        ends = range(-3, 4)
        small = [(low, high, 0) for low in ends for high in ends if low <= high]
        for one in small:
            for other in small:
                self.assert_meeting(one, other, bool(held(one) & held(other)))

    def test_told_stretches_can_be_asked(self):
        self.assert_meeting(stretch_of(1, 5, 2), stretch_of(5, 6, 3), True)
        self.assert_meeting(stretch_of(1, 5, 2), stretch_of(6, 6, 2), False)

    def test_arguments_have_the_names_of_the_interface(self):
        self.assertIs(meet(other=(1, 2, 0), one=(2, 3, 0)), True)

    def test_what_is_no_stretch_is_refused(self):
        good = (-9, 9, 0)
        for wrong in WRONG:
            for bad in ((wrong, 5, 0), (-5, wrong, 0), (1, 5, wrong)):
                self.assert_refused(meet, bad, good)
                self.assert_refused(meet, good, bad)
                self.assert_refused(meet, bad, bad)

    def test_low_greater_than_high_is_refused(self):
        self.assert_refused(meet, (5, 4, 0), (1, 9, 0))
        self.assert_refused(meet, (1, 9, 0), (5, 4, 0))
        self.assert_refused(meet, (5, 4, 0), (20, 30, 0))


class TestInterface(unittest.TestCase):
    def test_each_is_defined_in_its_file(self):
        for name in ("stretch_of", "meet"):
            self.assertEqual(getattr(stretches, name).__module__, "spanforest.stretches")


if __name__ == "__main__":
    unittest.main()
