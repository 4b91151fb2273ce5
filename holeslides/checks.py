"""The checks of arguments that several modules share."""

from holeslides.errors import InvalidMissing, InvalidNumber, InvalidRows, InvalidShape, InvalidWord, NotSorted

# A shape or a piece has at most so many rows, and each reaches at most so far.
MOST = 8
# A word has at most so many letters.
MOST_LETTERS = 40


def is_whole(thing):
    """Whether a thing is a whole number: an int that is not a bool."""
    return isinstance(thing, int) and not isinstance(thing, bool)


def are_whole(things):
    """Whether a thing is a list of whole numbers."""
    return isinstance(things, list) and all(is_whole(thing) for thing in things)


def is_short_list(things):
    """Whether a thing is a list of 1 to 8 things."""
    return isinstance(things, list) and 1 <= len(things) <= MOST


def is_one_of(row, rows):
    """Whether a thing is a whole number that is among these rows."""
    return is_whole(row) and row in rows


def first_out_of_line(things, least):
    """The index of the first thing that is not a whole number from `least` to
    8, or that is greater than the one before; None if there is none.
    """
    greatest = MOST
    for index, thing in enumerate(things):
        if not is_whole(thing) or not least <= thing <= greatest:
            return index
        greatest = thing
    return None


def check_shape(shape):
    """Raise InvalidShape if this is not a shape."""
    if not is_short_list(shape):
        raise InvalidShape(None)
    index = first_out_of_line(shape, 1)
    if index is not None:
        raise InvalidShape(index)


def check_missing(missing):
    """Raise InvalidMissing if this does not tell missing cells."""
    if not is_short_list(missing):
        raise InvalidMissing(None)
    index = first_out_of_line(missing, 0)
    if index is not None:
        raise InvalidMissing(index)


def check_rows_beside(missing, rows):
    """Raise InvalidRows if the rows do not fit missing cells, which are checked before."""
    if not isinstance(rows, list) or len(rows) != len(missing):
        raise InvalidRows(None)
    furthest = MOST
    for index, row in enumerate(rows):
        if not are_whole(row) or missing[index] + len(row) > furthest:
            raise InvalidRows(index)
        furthest = missing[index] + len(row)


def check_rows_alone(rows):
    """Raise InvalidRows if these are not the rows of a shape, filled in any order."""
    if not is_short_list(rows):
        raise InvalidRows(None)
    furthest = MOST
    for index, row in enumerate(rows):
        if not are_whole(row) or not 1 <= len(row) <= furthest:
            raise InvalidRows(index)
        furthest = len(row)


def check_ascending(missing, rows):
    """Raise NotSorted if a piece, which is checked before, is not sorted."""
    row = first_unsorted(missing, rows)
    if row is not None:
        raise NotSorted(row)


def check_piece(missing, rows):
    """Raise an error if this is not a piece, sorted or not."""
    check_missing(missing)
    check_rows_beside(missing, rows)


def check_sorted_piece(missing, rows):
    """Raise an error if this is not a sorted piece."""
    check_piece(missing, rows)
    check_ascending(missing, rows)


def check_straight(rows):
    """Raise an error if these are not the rows of a straight piece."""
    check_rows_alone(rows)
    check_ascending([0] * len(rows), rows)


def check_unlike(rows):
    """Raise NotSorted if a number stands twice in a straight piece, which is checked before."""
    index = first_repeating(rows)
    if index is not None:
        raise NotSorted(index + 1)


def check_number_below(number, many):
    """Raise InvalidNumber if this is not the number, from 0, of one of so many things."""
    if not is_whole(number) or not 0 <= number < many:
        raise InvalidNumber(number)


def check_word(word):
    """Raise InvalidWord if this is not a word."""
    if not isinstance(word, list) or not 1 <= len(word) <= MOST_LETTERS:
        raise InvalidWord(None)
    for index, letter in enumerate(word):
        if not is_whole(letter):
            raise InvalidWord(index)


def first_unsorted(missing, rows):
    """The number, from 1, of the first row of a piece that is out of order; None if there is none."""
    for index, row in enumerate(rows):
        if falls_along(row):
            return index + 1
        if index > 0 and fails_below(rows[index - 1], row, missing[index - 1] - missing[index]):
            return index + 1
    return None


def falls_along(row):
    """Whether a number of a row is less than the one to its left."""
    return any(row[at] < row[at - 1] for at in range(1, len(row)))


def fails_below(upper, row, first):
    """Whether a number of a row is not greater than the one above it; the row
    has `first` numbers that have a missing cell above them.
    """
    return any(number <= above for above, number in zip(upper, row[first:]))


def first_repeating(rows):
    """The index of the first row in which a number stands that stands before in
    it or in a row above; None if there is none.
    """
    seen = set()
    for index, row in enumerate(rows):
        for number in row:
            if number in seen:
                return index
            seen.add(number)
    return None
