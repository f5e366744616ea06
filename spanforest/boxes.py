"""Boxes: the tree in which a wood keeps its stretches. A tree is told by its top box, or by None if it is empty."""


class Box:
    """A stretch and the two parts under it.

    A box is never changed once it is made, so that several woods can share it.
    """

    def __init__(self, stretch, left, right):
        self.stretch = stretch
        self.left = left
        self.right = right
        self.tall = 1 + max(tall_of(left), tall_of(right))
        self.reach = reach_over(stretch, left, right)


def tall_of(box):
    """Tell the height of a box that may be missing."""
    if box is None:
        return 0
    return box.tall


def reach_over(stretch, left, right):
    """Tell the greatest high of a stretch and of the two parts under it."""
    reach = stretch[1]
    for part in (left, right):
        if part is not None:
            reach = max(reach, part.reach)
    return reach


def raised_left(stretch, left, right):
    """Tell the box of these three after the left part, which is too high by one, is raised."""
    if tall_of(left.left) >= tall_of(left.right):
        return Box(left.stretch, left.left, Box(stretch, left.right, right))
    middle = left.right
    lower_left = Box(left.stretch, left.left, middle.left)
    return Box(middle.stretch, lower_left, Box(stretch, middle.right, right))


def raised_right(stretch, left, right):
    """Tell the box of these three after the right part, which is too high by one, is raised."""
    if tall_of(right.right) >= tall_of(right.left):
        return Box(right.stretch, Box(stretch, left, right.left), right.right)
    middle = right.left
    lower_right = Box(right.stretch, middle.right, right.right)
    return Box(middle.stretch, Box(stretch, left, middle.left), lower_right)


def balanced(stretch, left, right):
    """Tell a box of these three, where the heights of the two parts differ by two at most."""
    if tall_of(left) > tall_of(right) + 1:
        return raised_left(stretch, left, right)
    if tall_of(right) > tall_of(left) + 1:
        return raised_right(stretch, left, right)
    return Box(stretch, left, right)


def has_stretch(box, stretch):
    """Tell whether the stretch stands in the tree."""
    while box is not None and box.stretch != stretch:
        if stretch < box.stretch:
            box = box.left
        else:
            box = box.right
    return box is not None


def with_stretch(box, stretch):
    """Tell the tree with a stretch added that does not stand in it."""
    if box is None:
        return Box(stretch, None, None)
    if stretch < box.stretch:
        return balanced(box.stretch, with_stretch(box.left, stretch), box.right)
    return balanced(box.stretch, box.left, with_stretch(box.right, stretch))


def without_stretch(box, stretch):
    """Tell the tree without a stretch that stands in it."""
    if stretch < box.stretch:
        return balanced(box.stretch, without_stretch(box.left, stretch), box.right)
    if stretch > box.stretch:
        return balanced(box.stretch, box.left, without_stretch(box.right, stretch))
    if box.left is None:
        return box.right
    if box.right is None:
        return box.left
    # The stretch next in order takes the free place, which keeps all others in order.
    follower = first_stretch(box.right)
    return balanced(follower, box.left, without_stretch(box.right, follower))


def first_stretch(box):
    """Tell the stretch of a tree that stands ahead of all others."""
    while box.left is not None:
        box = box.left
    return box.stretch


def placed_boxes(top):
    """Tell all boxes of the tree in order, each as (stretch, depth, height, reach)."""
    found = []
    gather_placed(top, 0, found)
    return found


def gather_placed(box, depth, found):
    """Append what placed_boxes tells of the part under and with a box at this depth."""
    if box is None:
        return
    gather_placed(box.left, depth + 1, found)
    found.append((box.stretch, depth, box.tall, box.reach))
    gather_placed(box.right, depth + 1, found)


def looked_boxes(top, low, high):
    """Tell the boxes that a question from low to high looks at, in order."""
    found = []
    gather_looked(top, low, high, found)
    return found


def gather_looked(box, low, high, found):
    """Append the boxes that the question looks at in the part under and with a box."""
    if box is None or box.reach < low:
        return
    gather_looked(box.left, low, high, found)
    found.append(box)
    # Behind a stretch that begins beyond the asked high, all others begin there too.
    if box.stretch[0] <= high:
        gather_looked(box.right, low, high, found)
