"""Rows: lists of stretches in order, with their gaps, their clumps and their deepest place."""

from heapq import heappop, heappush

from spanforest.stretches import check_ends, stretch_of


def check_row(row):
    """Refuse a row in which one is no stretch."""
    for low, high, mark in row:
        stretch_of(low, high, mark)


def gaps_of(row, low, high):
    """Tell the longest runs from low to high that no stretch of the row holds."""
    check_ends(low, high)
    check_row(row)
    gaps = []
    # All numbers from low up to this one, itself left out, are told as gaps or held.
    unsure = low
    for first, last, _ in row:
        if first > high:
            break
        if unsure < first:
            gaps.append((unsure, first - 1))
        # A stretch may lie within an earlier one, so its end may be behind already.
        unsure = max(unsure, last + 1)
    if unsure <= high:
        gaps.append((unsure, high))
    return gaps


def clumps_of(row):
    """Tell the least low, the greatest high and the number of stretches of each clump of the row."""
    check_row(row)
    clumps = []
    for first, last, _ in row:
        # The row is in order, so what does not meet the clump begun last meets none of the earlier ones.
        if clumps and first <= clumps[-1][1]:
            low, high, many = clumps[-1]
            clumps[-1] = (low, max(high, last), many + 1)
        else:
            clumps.append((first, last, 1))
    return clumps


def deepest_of(row, low, high):
    """Tell how many stretches of the row hold its deepest place from low to high, and the least such place."""
    check_ends(low, high)
    check_row(row)
    most = 0
    deepest = low
    # The highs of the stretches that hold the place, the least of them at the front.
    ends = []
    # The number of holders grows only where a stretch begins, so no other places need a look.
    for first, last, _ in row:
        place = max(first, low)
        if place > high:
            break
        if last < place:
            continue
        heappush(ends, last)
        while ends[0] < place:
            heappop(ends)
        if len(ends) > most:
            most = len(ends)
            deepest = place
    return (most, deepest)
