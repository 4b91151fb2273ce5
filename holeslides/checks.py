"""The checks of arguments that several modules share."""

from holeslides.errors import InvalidMissing, InvalidRows, InvalidShape, NotSorted

# A shape or a piece has at most so many rows, and each reaches at most so far.
MOST = 8


def is_whole(thing):
    """Whether a thing is a whole number: an int that is not a bool."""
    return isinstance(thing, int) and not isinstance(thing, bool)


def are_whole(things):
    """Whether a thing is a list of whole numbers."""
    return isinstance(things, list) and all(is_whole(thing) for thing in things)


def is_short_list(things):
    """Whether a thing is a list of 1 to 8 things."""
    return isinstance(things, list) and 1 <= len(things) <= MOST


def first_out_of_line(things, least):
    """The index of the first thing that is not a whole number from `least` to
    8, or that is greater than the one before; None if there is none.
    """
    greatest = MOST
    for index, thing in enumerate(things):
        if not is_whole(thing) or not least <= thing <= greatest:
            return index
        greatest = thing
    return None


def check_shape(shape):
    """Raise InvalidShape if this is not a shape."""
    if not is_short_list(shape):
        raise InvalidShape(None)
    index = first_out_of_line(shape, 1)
    if index is not None:
        raise InvalidShape(index)


def check_missing(missing):
    """Raise InvalidMissing if this does not tell missing cells."""
    if not is_short_list(missing):
        raise InvalidMissing(None)
    index = first_out_of_line(missing, 0)
    if index is not None:
        raise InvalidMissing(index)


def check_rows_beside(missing, rows):
    """Raise InvalidRows if the rows do not fit missing cells, which are checked before."""
    if not isinstance(rows, list) or len(rows) != len(missing):
        raise InvalidRows(None)
    furthest = MOST
    for index, row in enumerate(rows):
        if not are_whole(row) or missing[index] + len(row) > furthest:
            raise InvalidRows(index)
        furthest = missing[index] + len(row)


def check_piece(missing, rows):
    """Raise an error if this is not a piece, sorted or not."""
    check_missing(missing)
    check_rows_beside(missing, rows)


def check_sorted_piece(missing, rows):
    """Raise an error if this is not a sorted piece."""
    check_piece(missing, rows)
    row = first_unsorted(missing, rows)
    if row is not None:
        raise NotSorted(row)


def first_unsorted(missing, rows):
    """The number, from 1, of the first row of a piece that is out of order; None if there is none."""
    for index, row in enumerate(rows):
        if falls_along(row):
            return index + 1
        if index > 0 and fails_below(rows[index - 1], row, missing[index - 1] - missing[index]):
            return index + 1
    return None


def falls_along(row):
    """Whether a number of a row is less than the one to its left."""
    return any(row[at] < row[at - 1] for at in range(1, len(row)))


def fails_below(upper, row, first):
    """Whether a number of a row is not greater than the one above it; the row
    has `first` numbers that have a missing cell above them.
    """
    return any(number <= above for above, number in zip(upper, row[first:]))
