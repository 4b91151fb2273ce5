"""Insertion: numbers put into straight rows and taken out, and words told back."""

from holeslides.checks import check_straight, check_word, is_one_of, is_whole
from holeslides.errors import InvalidNumber, InvalidOrder, NoCorner
from holeslides.shapes import corner_rows, growing_rows


def put_in(rows, number):
    """A tuple of the rows after a number is put in, and of the row that is longer then."""
    check_straight(rows)
    if not is_whole(number):
        raise InvalidNumber(number)
    after = [list(row) for row in rows]
    grown = put_into(after, number)
    return after, grown


def take_out(rows, row):
    """A tuple of the rows after the corner of a row is taken out, and of the number that comes out."""
    check_straight(rows)
    if not is_one_of(row, corner_rows([len(numbers) for numbers in rows])):
        raise NoCorner(row)
    after = [list(numbers) for numbers in rows]
    number = take_from(after, row)
    return after, number


def pair_of(word):
    """A tuple of the straight rows of a word and of the list of the rows that grew, letter by letter."""
    check_word(word)
    rows = []
    grown = [put_into(rows, letter) for letter in word]
    return rows, grown


def word_from(rows, order):
    """The word that has these straight rows, and whose letters made the rows grow in this order."""
    check_straight(rows)
    check_growth(rows, order)
    rest = [list(row) for row in rows]
    word = [take_from(rest, row) for row in reversed(order)]
    word.reverse()
    return word


def check_growth(rows, order):
    """Raise InvalidOrder if rows cannot grow in this order until they are as long as these."""
    if not isinstance(order, list):
        raise InvalidOrder(None)
    shape = [len(numbers) for numbers in rows]
    lengths = [0] * len(shape)
    for index, row in enumerate(order):
        if not is_one_of(row, growing_rows(lengths, shape)):
            raise InvalidOrder(index)
        lengths[row - 1] += 1
    if lengths != shape:
        raise InvalidOrder(len(order))


def put_into(rows, number):
    """Put a number into straight rows, which are changed; the row that is longer then."""
    for index in range(len(rows)):
        row = rows[index]
        place = sum(1 for other in row if other <= number)
        if place == len(row):
            row.append(number)
            return index + 1
        row[place], number = number, row[place]
    rows.append([number])
    return len(rows)


def take_from(rows, row):
    """Take the corner of a row out of straight rows, which are changed; the number that comes out."""
    number = rows[row - 1].pop()
    # Below a corner there is no cell, so a row that is empty now was the last one.
    if not rows[-1]:
        rows.pop()
    for index in range(row - 2, -1, -1):
        above = rows[index]
        place = sum(1 for other in above if other < number) - 1
        above[place], number = number, above[place]
    return number
