"""Stretches to test with, and plain answers that are worked out number by number or pair by pair."""

from spanforest.stretches import meet


def sample_stretches(count):
    """As many different stretches, out of order: within one another, side by side, with like ends and unlike marks."""
    found = []
    for k in range(count):
        if k % 5 == 4:
            low, high, mark = found[-1]
            found.append((low, high, mark - 100 - k))
        else:
            low = (k * 37) % 61 - 30
            length = (0, 1, 2, 3, 5, 9, 17)[(k * 5) % 7]
            found.append((low, low + length, k % 3))
    assert len(set(found)) == count
    return found


def sparse_stretches(count):
    """As many different stretches, out of order, between which there are gaps."""
    found = []
    for k in range(count):
        at = (k * 89) % 151
        found.append((at * 6 - 300, at * 6 - 300 + (0, 2, 5, 7, 4)[k % 5], k % 3))
    assert len(set(found)) == count
    return found


def holders(row, place):
    return [stretch for stretch in row if stretch[0] <= place <= stretch[1]]


def plain_gaps(row, low, high):
    """The gaps, from every single number."""
    gaps = []
    for place in range(low, high + 1):
        if holders(row, place):
            continue
        if gaps and gaps[-1][1] == place - 1:
            gaps[-1] = (gaps[-1][0], place)
        else:
            gaps.append((place, place))
    return gaps


def plain_clumps(row):
    """The clumps, by following from each stretch all that are led to from it."""
    left = list(row)
    clumps = []
    while left:
        clump = [left.pop(0)]
        for one in clump:
            clump.extend([other for other in left if meet(one, other)])
            left = [other for other in left if not meet(one, other)]
        lows = [stretch[0] for stretch in clump]
        highs = [stretch[1] for stretch in clump]
        clumps.append((min(lows), max(highs), len(clump)))
    return sorted(clumps)


def plain_deepest(row, low, high):
    """The deepest place, from every single number."""
    return max(
        [(len(holders(row, place)), place) for place in range(low, high + 1)],
        key=lambda told: (told[0], -told[1]),
    )


def plain_meeting(row, low, high):
    """The stretches of a row that hold a number from low to high."""
    asked = set(range(low, high + 1))
    return [stretch for stretch in row if asked & set(range(stretch[0], stretch[1] + 1))]
