"""Turning straight pieces about: the least number taken out, again and again."""

from holeslides.checks import check_straight, check_unlike
from holeslides.slides import with_hole_filled


def least_out(rows):
    """A tuple of the rows after the least number is taken out, and of the row that is shorter then."""
    check_straight(rows)
    return without_least(rows)


def freed(rows):
    """The list of the rows that get shorter when the least number is taken out until nothing is left."""
    check_straight(rows)
    return shortened_rows(rows)


def turned(rows):
    """The rows of the piece turned about; its numbers have to be unlike."""
    check_straight(rows)
    check_unlike(rows)
    ascending = sorted([number for numbers in rows for number in numbers])
    after = [[] for _ in rows]
    # Each cell got free at the end of its row, so backwards the rows grow at their ends.
    for row, number in zip(shortened_rows(rows)[::-1], ascending):
        after[row - 1].append(number)
    return after


def without_least(rows):
    """What `least_out` returns, for rows that are checked before."""
    missing = [1] + [0] * (len(rows) - 1)
    _, after, row = with_hole_filled(missing, [rows[0][1:]] + rows[1:], 1)
    return [numbers for numbers in after if numbers], row


def shortened_rows(rows):
    """What `freed` returns, for rows that are checked before."""
    order = []
    while rows:
        rows, row = without_least(rows)
        order.append(row)
    return order
