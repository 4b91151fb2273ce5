"""Counting and listing sorted fillings, in the order of the rows in which 1, 2, 3, and so on stand."""

from holeslides.checks import check_missing, check_number_below, check_shape, check_straight
from holeslides.errors import InvalidMissing, InvalidRows
from holeslides.shapes import corner_rows, count_sorted, growing_rows


def count_between(shape, missing):
    """The number of the sorted fillings, by the numbers from 1 on, of a shape from which cells are missing."""
    check_shape(shape)
    check_missing(missing)
    check_missing_within(shape, missing)
    return counts_between(shape, missing)[tuple(missing)]


def sorted_numbered(shape, number):
    """The rows of the sorted filling with a number."""
    check_shape(shape)
    check_number_below(number, count_sorted(shape))
    lengths = [0] * len(shape)
    counts = counts_between(shape, lengths)
    order = []
    while lengths != shape:
        row, number = next_growing(lengths, shape, counts, number)
        order.append(row)
        lengths = with_other_length(lengths, row, 1)
    return filling_of(order, shape)


def sorted_number(rows):
    """The number of a sorted filling."""
    check_straight(rows)
    check_listed(rows)
    shape = [len(row) for row in rows]
    lengths = [0] * len(shape)
    counts = counts_between(shape, lengths)
    number = 0
    for grown in growth_of(rows):
        for row in growing_rows(lengths, shape):
            if row < grown:
                number = number + count_after(counts, lengths, row)
        lengths = with_other_length(lengths, grown, 1)
    return number


def all_sorted(shape):
    """A generator of the rows of all sorted fillings of a shape, by their numbers."""
    check_shape(shape)
    whole = list(shape)
    order = first_growth([0] * len(whole), whole)
    while order is not None:
        yield filling_of(order, whole)
        order = growth_after(order, whole)


def check_missing_within(shape, missing):
    """Raise InvalidMissing if these missing cells, which are checked before, are not cells of a shape."""
    if len(missing) != len(shape):
        raise InvalidMissing(None)
    for index, gone in enumerate(missing):
        if gone > shape[index]:
            raise InvalidMissing(index)


def check_listed(rows):
    """Raise InvalidRows if a straight piece does not have the numbers from 1 on, each once."""
    numbers = [number for row in rows for number in row]
    for index in range(len(rows)):
        if any(not 1 <= number <= len(numbers) or numbers.count(number) > 1 for number in rows[index]):
            raise InvalidRows(index)


def counts_between(shape, missing):
    """For each shape between the missing cells and a shape, by a tuple of the
    lengths of its rows, in how many ways it grows cell by cell to the shape.
    """
    counts = {tuple(shape): 1}
    # All shapes of one number of cells, so that each is counted to the end before it is left.
    level = [list(shape)]
    for _ in range(sum(shape) - sum(missing)):
        lower = []
        for lengths in level:
            for row in corner_rows(lengths):
                if lengths[row - 1] > missing[row - 1]:
                    lesser = with_other_length(lengths, row, -1)
                    if tuple(lesser) not in counts:
                        counts[tuple(lesser)] = 0
                        lower.append(lesser)
                    counts[tuple(lesser)] += counts[tuple(lengths)]
        level = lower
    return counts


def count_after(counts, lengths, row):
    """In how many ways rows of these lengths grow to the end once a row is longer by a cell."""
    return counts[tuple(with_other_length(lengths, row, 1))]


def next_growing(lengths, shape, counts, number):
    """A tuple of the row that grows next on the way with a number, among all
    ways that go on from these lengths, and of its number among those left then.
    """
    rows = growing_rows(lengths, shape)
    at = 0
    while number >= count_after(counts, lengths, rows[at]):
        number = number - count_after(counts, lengths, rows[at])
        at += 1
    return rows[at], number


def with_other_length(lengths, row, change):
    """New lengths of rows, one of which is changed by so much."""
    return lengths[:row - 1] + [lengths[row - 1] + change] + lengths[row:]


def growth_of(rows):
    """The list of the rows in which 1, 2, 3, and so on stand."""
    places = {number: index + 1 for index, row in enumerate(rows) for number in row}
    return [places[number] for number in sorted(places)]


def filling_of(order, shape):
    """The rows of a shape, in which 1, 2, 3, and so on stand in the rows of a list."""
    rows = [[] for _ in shape]
    for index, row in enumerate(order):
        rows[row - 1].append(index + 1)
    return rows


def first_growth(lengths, shape):
    """The first one of the lists of rows that grow from these lengths to a shape."""
    return [index + 1 for index, length in enumerate(shape) for _ in range(length - lengths[index])]


def growth_after(order, shape):
    """The list of rows that grow to a shape that comes next after one; None after the last one."""
    lengths = list(shape)
    for at in range(len(order) - 1, -1, -1):
        lengths[order[at] - 1] -= 1
        later = [row for row in growing_rows(lengths, shape) if row > order[at]]
        if later:
            longer = with_other_length(lengths, later[0], 1)
            return order[:at] + [later[0]] + first_growth(longer, shape)
    return None
