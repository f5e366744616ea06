"""Tests of spanforest.woods: points 3 and 8 to 12 of the document, and points 1 and 4 to 7 as far as woods go."""

import inspect
import unittest

from refusals import MOST, WRONG, RefusalTest
from samples import (
    plain_clumps,
    plain_deepest,
    plain_gaps,
    plain_meeting,
    sample_stretches,
    sparse_stretches,
)
from spanforest.errors import Missing, Twice
from spanforest.woods import Wood

ASKED = [(low, high) for low in range(-40, 61, 11) for high in range(low, 61, 13)] + [(-50, 60), (-31, 40)]

COUNTS = (1, 2, 3, 4, 7, 12, 30, 75, 150)

INTERFACE = {
    "put": ["low", "high", "mark"],
    "take": ["low", "high", "mark"],
    "keeps": ["low", "high", "mark"],
    "listed": [],
    "total": [],
    "meeting": ["low", "high"],
    "holding": ["place"],
    "looked": ["low", "high"],
    "gaps": ["low", "high"],
    "clumps": [],
    "deepest": ["low", "high"],
    "branch": [],
    "height": [],
    "boxes": [],
}


def wood_of(stretches):
    wood = Wood()
    for stretch in stretches:
        wood.put(*stretch)
    return wood


def mixed(stretches):
    """The same stretches in another order: every second one, then the others from behind."""
    return stretches[::2] + stretches[1::2][::-1]


def orders(stretches):
    """Ascending, descending and two mixed orders."""
    row = sorted(stretches)
    return [row, row[::-1], list(stretches), mixed(row)]


def tree_of(boxes, depth=0):
    """The tree that boxes told in order stand in: a dict for a box, None for a missing one."""
    if not boxes:
        return None
    tops = [at for at, box in enumerate(boxes) if box[1] == depth]
    assert len(tops) == 1, "one box on top of each part"
    at = tops[0]
    stretch, _, height, reach = boxes[at]
    left = tree_of(boxes[:at], depth + 1)
    right = tree_of(boxes[at + 1:], depth + 1)
    return {"stretch": stretch, "height": height, "reach": reach, "left": left, "right": right}


def count_looked(tree, low, high):
    """How many boxes point 12 looks at, walked over the told boxes."""
    if tree is None or tree["reach"] < low:
        return 0
    waiting = [tree]
    many = 0
    while waiting:
        box = waiting.pop()
        many += 1
        if box["left"] is not None and box["left"]["reach"] >= low:
            waiting.append(box["left"])
        if box["stretch"][0] <= high and box["right"] is not None and box["right"]["reach"] >= low:
            waiting.append(box["right"])
    return many


class WoodTest(RefusalTest):
    def assert_part(self, tree):
        """Heights and reaches of a part are as point 11 says; tells its height and its greatest high."""
        if tree is None:
            return 0, None
        left_height, left_reach = self.assert_part(tree["left"])
        right_height, right_reach = self.assert_part(tree["right"])
        self.assertLessEqual(abs(left_height - right_height), 1)
        self.assertEqual(tree["height"], 1 + max(left_height, right_height))
        highs = [tree["stretch"][1], left_reach, right_reach]
        self.assertEqual(tree["reach"], max([high for high in highs if high is not None]))
        return tree["height"], tree["reach"]

    def assert_kept(self, wood, expected):
        """The wood keeps just these stretches, in boxes as point 11 says."""
        row = sorted(expected)
        self.assertEqual(wood.listed(), row)
        self.assertEqual(wood.total(), len(row))
        boxes = wood.boxes()
        self.assertEqual([box[0] for box in boxes], row)
        height, _ = self.assert_part(tree_of(boxes))
        self.assertEqual(wood.height(), height)

    def assert_questions(self, wood, asked):
        """What the wood tells is what plain walks over its stretches and boxes tell."""
        row = wood.listed()
        tree = tree_of(wood.boxes())
        self.assertEqual(wood.clumps(), plain_clumps(row))
        for low, high in asked:
            met = plain_meeting(row, low, high)
            self.assertEqual(wood.meeting(low, high), met)
            self.assertEqual(wood.looked(low, high), count_looked(tree, low, high))
            self.assertLessEqual(wood.looked(low, high), wood.height() * (len(met) + 1))
            self.assertEqual(wood.gaps(low, high), plain_gaps(row, low, high))
            self.assertEqual(wood.deepest(low, high), plain_deepest(row, low, high))
            self.assertEqual(wood.holding(low), plain_meeting(row, low, low))

    def assert_unchanged_by(self, wood, expected, refused, function, *given):
        before = wood.boxes()
        self.assert_refused_with(refused, function, *given)
        self.assertEqual(wood.boxes(), before)
        self.assert_kept(wood, expected)


class TestKeeping(WoodTest):
    def test_empty_wood(self):
        wood = Wood()
        self.assertEqual(wood.listed(), [])
        self.assertEqual(wood.total(), 0)
        self.assertEqual(wood.boxes(), [])
        self.assertEqual(wood.height(), 0)
        self.assertIs(wood.keeps(1, 2, 3), False)

    def test_put_and_take(self):
        wood = Wood()
        self.assertIsNone(wood.put(3, 5, 0))
        self.assertIs(wood.keeps(3, 5, 0), True)
        self.assertEqual(wood.listed(), [(3, 5, 0)])
        self.assertEqual(wood.boxes(), [((3, 5, 0), 0, 1, 5)])
        self.assertIsNone(wood.take(3, 5, 0))
        self.assertIs(wood.keeps(3, 5, 0), False)
        self.assert_kept(wood, [])

    def test_in_order_by_low_then_high_then_mark(self):
        row = [(-2, 9, 0), (1, 1, 5), (1, 2, -8), (1, 2, -7), (1, 2, 0), (1, 3, -9), (2, 2, -1)]
        for order in orders(row):
            self.assertEqual(wood_of(order).listed(), row)

    def test_order_goes_by_numbers_not_by_figures(self):
        row = [(-10, 100, 0), (-9, 2, 0), (2, 9, 0), (2, 10, 0), (10, 10, 9), (10, 10, 10)]
        for order in orders(row):
            self.assertEqual(wood_of(order).listed(), row)

    def test_two_woods_are_apart(self):
        one, other = Wood(), Wood()
        one.put(1, 2, 3)
        self.assert_kept(one, [(1, 2, 3)])
        self.assert_kept(other, [])

    def test_keeps_tells_apart(self):
        row = sample_stretches(40)
        wood = wood_of(row)
        for low, high, mark in row:
            self.assertIs(wood.keeps(low, high, mark), True)
            self.assertIs(wood.keeps(low, high, mark + 1000), False)
            self.assertIs(wood.keeps(low, high + 1000, mark), False)
            self.assertIs(wood.keeps(low - 1000, high, mark), False)

    def test_like_ends_with_unlike_marks_are_different(self):
        wood = wood_of([(1, 5, 0), (1, 5, 1), (1, 5, -1)])
        self.assert_kept(wood, [(1, 5, -1), (1, 5, 0), (1, 5, 1)])
        wood.take(1, 5, 0)
        self.assertIs(wood.keeps(1, 5, 0), False)
        self.assert_kept(wood, [(1, 5, -1), (1, 5, 1)])
        self.assert_refused_with(Missing, wood.take, 1, 5, 0)

    def test_taken_can_be_put_again(self):
        wood = wood_of([(1, 5, 0), (2, 6, 0)])
        wood.take(1, 5, 0)
        wood.put(1, 5, 0)
        self.assert_kept(wood, [(1, 5, 0), (2, 6, 0)])

    def test_sixty_figures(self):
        row = [(-MOST, -MOST, -MOST), (-MOST, MOST, MOST), (0, MOST, -MOST), (MOST, MOST, MOST)]
        for order in orders(row):
            wood = wood_of(order)
            self.assert_kept(wood, row)
            self.assertEqual(wood.meeting(-MOST, MOST), row)
            self.assertEqual(wood.holding(-MOST), row[:2])
            self.assertEqual(wood.holding(MOST), row[1:])
            self.assertEqual(wood.holding(-1), row[1:2])
            for left in order:
                wood.take(*left)
            self.assert_kept(wood, [])

    def test_twice_changes_nothing(self):
        for count in COUNTS[:6]:
            row = sample_stretches(count)
            wood = wood_of(row)
            for stretch in row:
                self.assert_unchanged_by(wood, row, Twice, wood.put, *stretch)

    def test_missing_changes_nothing(self):
        for count in (0,) + COUNTS[:6]:
            row = sample_stretches(count)
            wood = wood_of(row)
            self.assert_unchanged_by(wood, row, Missing, wood.take, 500, 600, 0)
            self.assert_unchanged_by(wood, row, Missing, wood.take, -600, -500, 0)
            for low, high, mark in row:
                self.assert_unchanged_by(wood, row, Missing, wood.take, low, high, mark + 1000)
                self.assert_unchanged_by(wood, row, Missing, wood.take, low, high + 1000, mark)
                self.assert_unchanged_by(wood, row, Missing, wood.take, low - 1000, high, mark)


class TestBoxes(WoodTest):
    def test_after_every_put_and_take(self):
        for count in COUNTS:
            for samples in (sample_stretches(count), sparse_stretches(count)):
                for order in orders(samples):
                    self.put_all_and_take_all(order, order)

    def test_taken_in_another_order_than_put(self):
        for count in (12, 75, 150):
            for samples in (sample_stretches(count), sparse_stretches(count)):
                for put in orders(samples):
                    for take in orders(samples):
                        if put != take:
                            self.put_all_and_take_all(put, take)

    def put_all_and_take_all(self, put, take):
        wood = Wood()
        kept = []
        for stretch in put:
            wood.put(*stretch)
            kept.append(stretch)
            self.assert_kept(wood, kept)
        for stretch in take:
            wood.take(*stretch)
            kept.remove(stretch)
            self.assert_kept(wood, kept)
        self.assertEqual(wood.height(), 0)
        self.assertEqual(wood.boxes(), [])

    def test_puts_and_takes_by_turns(self):
        wood = Wood()
        kept = []
        samples = sample_stretches(150)
        for k, stretch in enumerate(samples):
            wood.put(*stretch)
            kept.append(stretch)
            self.assert_kept(wood, kept)
            if k % 3 == 2:
                gone = kept.pop((k * 7) % len(kept))
                wood.take(*gone)
                self.assert_kept(wood, kept)

    def test_taking_boxes_at_every_place(self):
        for count in range(1, 16):
            row = sorted(sample_stretches(count))
            for order in orders(row):
                for gone in row:
                    wood = wood_of(order)
                    wood.take(*gone)
                    self.assert_kept(wood, [stretch for stretch in row if stretch != gone])

    def test_all_orders_of_few(self):
        row = [(1, 9, 0), (2, 3, 0), (4, 4, 0), (4, 6, 0), (5, 20, 0)]
        for one in row:
            for two in row:
                for three in row:
                    for four in row:
                        ahead = [one, two, three, four]
                        if len(set(ahead)) == 4:
                            self.put_all_and_take_all(ahead + [k for k in row if k not in ahead], row)

    def test_reach_shrinks_when_the_longest_goes(self):
        wood = wood_of([(k, k, 0) for k in range(20)] + [(3, 900, 0)])
        self.assertEqual(max([box[3] for box in wood.boxes()]), 900)
        wood.take(3, 900, 0)
        self.assertEqual(max([box[3] for box in wood.boxes()]), 19)

    def test_the_tree_stays_as_long_as_nothing_is_put_or_taken(self):
        row = sample_stretches(60)
        wood = wood_of(row)
        before = wood.boxes()
        for low, high in ASKED:
            wood.meeting(low, high)
            wood.looked(low, high)
            wood.gaps(low, high)
            wood.deepest(low, high)
            wood.holding(low)
        wood.clumps()
        wood.listed()
        wood.keeps(1, 2, 3)
        branch = wood.branch()
        for stretch in row[::2]:
            branch.take(*stretch)
        self.assertEqual(wood.boxes(), before)

    def test_somewhat_more_than_150_raise_no_error(self):
        row = [(k, k + 3, 0) for k in range(400)]
        wood = wood_of(row)
        self.assert_kept(wood, row)
        self.assertEqual(wood.holding(200), row[197:201])
        for stretch in row:
            wood.take(*stretch)
        self.assert_kept(wood, [])


class TestQuestions(WoodTest):
    def test_ordinary(self):
        wood = wood_of([(1, 5, 0), (3, 8, 0), (6, 6, 1), (20, 30, 0), (22, 23, 0)])
        self.assertEqual(wood.meeting(5, 6), [(1, 5, 0), (3, 8, 0), (6, 6, 1)])
        self.assertEqual(wood.meeting(9, 19), [])
        self.assertEqual(wood.meeting(8, 20), [(3, 8, 0), (20, 30, 0)])
        self.assertEqual(wood.meeting(0, 100), wood.listed())
        self.assertEqual(wood.holding(6), [(3, 8, 0), (6, 6, 1)])
        self.assertEqual(wood.holding(9), [])
        self.assertEqual(wood.gaps(0, 31), [(0, 0), (9, 19), (31, 31)])
        self.assertEqual(wood.clumps(), [(1, 8, 3), (20, 30, 2)])
        self.assertEqual(wood.deepest(0, 31), (2, 3))
        self.assertEqual(wood.deepest(4, 31), (2, 4))

    def test_empty_wood(self):
        wood = Wood()
        for low, high in [(3, 8), (4, 4), (-MOST, MOST)]:
            self.assertEqual(wood.meeting(low, high), [])
            self.assertEqual(wood.holding(low), [])
            self.assertEqual(wood.looked(low, high), 0)
            self.assertEqual(wood.gaps(low, high), [(low, high)])
            self.assertEqual(wood.deepest(low, high), (0, low))
        self.assertEqual(wood.clumps(), [])

    def test_side_by_side_do_not_meet(self):
        wood = wood_of([(3, 5, 0), (6, 8, 0)])
        self.assertEqual(wood.meeting(3, 5), [(3, 5, 0)])
        self.assertEqual(wood.meeting(6, 8), [(6, 8, 0)])
        self.assertEqual(wood.meeting(1, 2), [])
        self.assertEqual(wood.meeting(9, 12), [])
        self.assertEqual(wood.clumps(), [(3, 5, 1), (6, 8, 1)])
        self.assertEqual(wood.gaps(2, 9), [(2, 2), (9, 9)])

    def test_one_within_another(self):
        wood = wood_of([(1, 9, 0), (4, 6, 0), (5, 5, 0)])
        self.assertEqual(wood.meeting(7, 7), [(1, 9, 0)])
        self.assertEqual(wood.meeting(5, 5), [(1, 9, 0), (4, 6, 0), (5, 5, 0)])
        self.assertEqual(wood.meeting(-3, 20), [(1, 9, 0), (4, 6, 0), (5, 5, 0)])
        self.assertEqual(wood.deepest(-3, 20), (3, 5))
        self.assertEqual(wood.clumps(), [(1, 9, 3)])

    def test_like_ends_with_unlike_marks_are_each_told(self):
        wood = wood_of([(1, 5, 2), (1, 5, -2), (1, 5, 0)])
        self.assertEqual(wood.holding(3), [(1, 5, -2), (1, 5, 0), (1, 5, 2)])
        self.assertEqual(wood.deepest(0, 9), (3, 1))
        self.assertEqual(wood.clumps(), [(1, 5, 3)])

    def test_asked_stretch_is_asked_whatever_marks_are_kept(self):
        for mark in (-MOST, -1, 0, 1, MOST):
            wood = wood_of([(4, 4, mark)])
            self.assertEqual(wood.meeting(4, 4), [(4, 4, mark)])
            self.assertEqual(wood.holding(4), [(4, 4, mark)])

    def test_against_plain_walks(self):
        for count in COUNTS:
            for samples in (sample_stretches(count), sparse_stretches(count)):
                for order in orders(samples):
                    self.assert_questions(wood_of(order), ASKED)

    def test_against_plain_walks_after_takes(self):
        for samples in (sample_stretches(150), sparse_stretches(150)):
            wood = wood_of(samples)
            for k, stretch in enumerate(mixed(samples)):
                wood.take(*stretch)
                if k % 10 == 9:
                    self.assert_questions(wood, ASKED[::5])
            self.assert_questions(wood, ASKED)

    def test_all_small_questions(self):
        small = [(low, high, 0) for low in range(5) for high in range(low, 5)]
        wood = wood_of(small)
        asked = [(low, high) for low in range(-2, 7) for high in range(low, 7)]
        self.assert_questions(wood, asked)
        for gone in small[::2]:
            wood.take(*gone)
        self.assert_questions(wood, asked)

    def test_kinds_of_what_is_told(self):
        wood = wood_of(sample_stretches(40))
        self.assertIs(type(wood.total()), int)
        self.assertIs(type(wood.height()), int)
        self.assertIs(type(wood.looked(0, 9)), int)
        self.assertIs(type(wood.deepest(0, 9)), tuple)
        lists = (wood.listed(), wood.meeting(-9, 9), wood.holding(0), wood.gaps(-99, 99), wood.clumps(), wood.boxes())
        for told in lists:
            self.assertIs(type(told), list)
            self.assertGreater(len(told), 0)
            for item in told:
                self.assertIs(type(item), tuple)
        for stretch, depth, height, reach in wood.boxes():
            self.assertIs(type(stretch), tuple)
            self.assertEqual([type(depth), type(height), type(reach)], [int, int, int])

    def test_told_lists_are_new_ones(self):
        for wood in (Wood(), wood_of(sample_stretches(40))):
            asking = (
                wood.listed,
                wood.boxes,
                wood.clumps,
                lambda: wood.meeting(-9, 9),
                lambda: wood.holding(0),
                lambda: wood.gaps(-99, 99),
            )
            for ask in asking:
                first = ask()
                kept = list(first)
                first.append("more")
                first.reverse()
                self.assertEqual(ask(), kept)
                first.clear()
                self.assertEqual(ask(), kept)
                self.assertEqual(wood.total(), len(wood.listed()))


class TestLooked(WoodTest):
    def test_nothing_looked_at_beyond_the_reach(self):
        wood = wood_of(sample_stretches(50))
        top_reach = max([box[3] for box in wood.boxes()])
        self.assertEqual(wood.looked(top_reach + 1, top_reach + 9), 0)
        self.assertGreater(wood.looked(top_reach, top_reach + 9), 0)

    def test_one_box(self):
        wood = wood_of([(3, 5, 0)])
        self.assertEqual(wood.looked(1, 2), 1)
        self.assertEqual(wood.looked(5, 9), 1)
        self.assertEqual(wood.looked(6, 9), 0)

    def test_three_boxes(self):
        # Three stretches can only stand as a top with one box on either side.
        wood = wood_of([(1, 2, 0), (4, 5, 0), (7, 8, 0)])
        self.assertEqual([box[1] for box in wood.boxes()], [1, 0, 1])
        self.assertEqual(wood.looked(0, 0), 2)
        self.assertEqual(wood.looked(0, 3), 2)
        self.assertEqual(wood.looked(0, 4), 3)
        self.assertEqual(wood.looked(2, 3), 2)
        self.assertEqual(wood.looked(3, 3), 1)
        self.assertEqual(wood.looked(3, 4), 2)
        self.assertEqual(wood.looked(8, 9), 2)
        self.assertEqual(wood.looked(9, 9), 0)

    def test_few_of_many_that_lie_apart(self):
        wood = wood_of([(k * 10, k * 10 + 5, 0) for k in range(150)])
        for k in range(150):
            self.assertEqual(wood.holding(k * 10 + 2), [(k * 10, k * 10 + 5, 0)])
            self.assertLessEqual(wood.looked(k * 10 + 2, k * 10 + 2), 2 * wood.height())
            self.assertLessEqual(wood.looked(k * 10 + 7, k * 10 + 7), wood.height())


class TestBranches(WoodTest):
    def test_a_branch_is_another_wood(self):
        wood = wood_of([(1, 2, 3)])
        branch = wood.branch()
        self.assertIs(type(branch), Wood)
        self.assertIsNot(branch, wood)
        self.assert_kept(branch, [(1, 2, 3)])

    def test_branch_of_the_empty_wood(self):
        wood = Wood()
        branch = wood.branch()
        self.assert_kept(branch, [])
        branch.put(1, 2, 3)
        self.assert_kept(wood, [])
        wood.put(4, 5, 6)
        self.assert_kept(branch, [(1, 2, 3)])
        self.assert_kept(wood, [(4, 5, 6)])

    def test_each_keeps_its_own(self):
        row = sample_stretches(40)
        wood = wood_of(row)
        branch = wood.branch()
        for stretch in row[:20]:
            wood.take(*stretch)
            self.assert_kept(branch, row)
        self.assert_kept(wood, row[20:])
        for stretch in row[10:30]:
            branch.take(*stretch)
            self.assert_kept(wood, row[20:])
        self.assert_kept(branch, row[:10] + row[30:])
        branch.put(900, 901, 0)
        wood.put(-901, -900, 0)
        self.assert_kept(wood, row[20:] + [(-901, -900, 0)])
        self.assert_kept(branch, row[:10] + row[30:] + [(900, 901, 0)])
        self.assert_questions(wood, ASKED[::4])
        self.assert_questions(branch, ASKED[::4])

    def test_each_refuses_by_its_own(self):
        wood = wood_of([(1, 2, 3)])
        branch = wood.branch()
        branch.put(4, 5, 6)
        self.assert_refused_with(Missing, wood.take, 4, 5, 6)
        self.assert_refused_with(Twice, branch.put, 4, 5, 6)
        wood.put(4, 5, 6)
        wood.take(1, 2, 3)
        self.assert_refused_with(Missing, wood.take, 1, 2, 3)
        self.assert_refused_with(Twice, branch.put, 1, 2, 3)
        self.assert_kept(wood, [(4, 5, 6)])
        self.assert_kept(branch, [(1, 2, 3), (4, 5, 6)])

    def test_emptied_by_one(self):
        row = sample_stretches(25)
        wood = wood_of(row)
        branch = wood.branch()
        for stretch in row:
            wood.take(*stretch)
        self.assert_kept(wood, [])
        self.assert_kept(branch, row)
        for stretch in row:
            wood.put(*stretch)
            branch.take(*stretch)
        self.assert_kept(wood, row)
        self.assert_kept(branch, [])

    def test_branches_of_branches(self):
        samples = sample_stretches(120)
        woods = [Wood()]
        kept = [[]]
        for k, stretch in enumerate(samples):
            at = (k * 5) % len(woods)
            woods[at].put(*stretch)
            kept[at].append(stretch)
            if k % 9 == 5:
                at = (k * 11) % len(woods)
                woods.append(woods[at].branch())
                kept.append(list(kept[at]))
            if k % 4 == 3:
                at = (k * 3) % len(woods)
                if kept[at]:
                    woods[at].take(*kept[at].pop((k * 7) % len(kept[at])))
            for wood, row in zip(woods, kept):
                self.assert_kept(wood, row)
        for wood in woods:
            self.assert_questions(wood, ASKED[::9])

    def test_a_long_line_of_branches(self):
        line = [Wood()]
        for k in range(100):
            line.append(line[-1].branch())
            line[-1].put(k, k + 5, 0)
        for k, wood in enumerate(line):
            self.assert_kept(wood, [(j, j + 5, 0) for j in range(k)])


class TestRefusals(WoodTest):
    def woods(self):
        """The empty wood and two others, each with what it keeps."""
        rows = ([], [(-9, 9, 0)], [(1, 1, 1), (0, 0, 0), (-5, 5, 0), (1, 5, 0), (1, 5, 1)])
        return [(wood_of(row), row) for row in rows]

    def test_wrong_low_high_or_mark(self):
        for wood, row in self.woods():
            before = wood.boxes()
            for function in (wood.put, wood.take, wood.keeps):
                for wrong in WRONG:
                    self.assert_refused(function, wrong, 5, 0)
                    self.assert_refused(function, wrong, MOST, 0)
                    self.assert_refused(function, -5, wrong, 0)
                    self.assert_refused(function, -MOST, wrong, 0)
                    self.assert_refused(function, 1, 5, wrong)
                    self.assert_refused(function, wrong, wrong, wrong)
            self.assertEqual(wood.boxes(), before)
            self.assert_kept(wood, row)

    def test_wrong_low_or_high_of_a_question(self):
        for wood, row in self.woods():
            for function in (wood.meeting, wood.looked, wood.gaps, wood.deepest):
                for wrong in WRONG:
                    self.assert_refused(function, wrong, 5)
                    self.assert_refused(function, wrong, MOST)
                    self.assert_refused(function, -5, wrong)
                    self.assert_refused(function, -MOST, wrong)
                    self.assert_refused(function, wrong, wrong)
            self.assert_kept(wood, row)

    def test_wrong_place(self):
        for wood, row in self.woods():
            for wrong in WRONG:
                self.assert_refused(wood.holding, wrong)
            self.assert_kept(wood, row)

    def test_low_greater_than_high(self):
        for wood, row in self.woods():
            for low, high in ((5, 4), (5, -5), (-4, -5), (1, 0), (MOST, -MOST)):
                for function in (wood.put, wood.take, wood.keeps):
                    self.assert_refused(function, low, high, 0)
                for function in (wood.meeting, wood.looked, wood.gaps, wood.deepest):
                    self.assert_refused(function, low, high)
            self.assert_kept(wood, row)

    def test_bad_stretch_ahead_of_twice_and_missing(self):
        row = [(0, 0, 0), (1, 1, 1), (0, 1, 0)]
        wood = wood_of(row)
        # These are equal to kept ones, yet no stretches.
        for given in ((True, True, True), (False, 0, 0), (0, True, 0), (1, 1, True), (0.0, 1, 0), (0, 1, 0.0)):
            self.assertIn(given, row)
            self.assert_unchanged_by(wood, row, Missing, wood.take, 7, 7, 7)
            for function in (wood.put, wood.take, wood.keeps):
                self.assert_refused(function, *given)
        # These are not kept, and no stretches either.
        for given in ((10 ** 60, 10 ** 60, 0), (3, 2, 0), (3, None, 0), (3, 4, "5"), ([], (), {})):
            self.assert_refused(wood.take, *given)
        self.assert_kept(wood, row)

    def test_lists_that_are_handed_in_stay_as_they_are(self):
        wood = wood_of([(1, 5, 0)])
        given = [3, 1, 2]
        for function in (wood.put, wood.take, wood.keeps):
            self.assert_refused(function, given, given, given)
        for function in (wood.meeting, wood.looked, wood.gaps, wood.deepest):
            self.assert_refused(function, given, given)
        self.assert_refused(wood.holding, given)
        self.assertEqual(given, [3, 1, 2])


class TestInterface(unittest.TestCase):
    def test_the_class_is_defined_in_its_file(self):
        self.assertEqual(Wood.__module__, "spanforest.woods")

    def test_each_method_is_defined_in_the_class_itself(self):
        for name in INTERFACE:
            self.assertIn(name, vars(Wood))

    def test_arguments_have_the_names_of_the_interface(self):
        self.assertEqual(list(inspect.signature(Wood).parameters), [])
        wood = Wood()
        for name, arguments in INTERFACE.items():
            self.assertEqual(list(inspect.signature(getattr(wood, name)).parameters), arguments)


if __name__ == "__main__":
    unittest.main()
