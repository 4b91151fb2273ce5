"""Wrong arguments, each with the error that it has to raise, its field, and what that holds."""

from holeslides.errors import (
    InvalidMissing, InvalidNumber, InvalidOrder, InvalidRows, InvalidShape, InvalidTable, InvalidWord, NotSorted,
)
from tests.things import no_lists, no_numbers

MISSING = [2, 1, 0]
ROWS = [[2], [1, 4], [1, 3, 5]]
STRAIGHT = [[1, 3, 3], [4, 5]]
WORD = [1, 3, 5, 1, 4, 2]
SHAPE = [3, 3, 1]
UNLIKE = [[1, 2, 4], [3, 5]]
# Of the cells of UNLIKE the least numbers of a table, and the greatest ones.
LEAST = [[-1, -1, 0], [0, 0]]
GREATEST = [[2, 1, 0], [1, 0]]


def with_one_other(things, index, thing):
    return things[:index] + [thing] + things[index + 1:]


def wrong_missing():
    """Wrong lists of missing cells, each with the error that it has to raise."""
    for thing in no_lists() + [[], [0] * 9, [None] * 9]:
        yield thing, InvalidMissing, "index", None
    for thing in no_numbers() + [-1, 9, 10 ** 70, -10 ** 5000]:
        for index in range(3):
            yield with_one_other(MISSING, index, thing), InvalidMissing, "index", index
    yield [0, 1], InvalidMissing, "index", 1
    yield [5, 5, 3, 4, None], InvalidMissing, "index", 3
    yield [5, None, 7], InvalidMissing, "index", 1


def wrong_rows():
    """Rows that do not fit MISSING."""
    for thing in no_lists() + [[], ROWS[:2], ROWS + [[]], [None] * 4]:
        yield thing, InvalidRows, "index", None
    for index in range(3):
        for thing in no_lists():
            yield with_one_other(ROWS, index, thing), InvalidRows, "index", index
        for thing in no_numbers():
            yield with_one_other(ROWS, index, [thing]), InvalidRows, "index", index
    yield [[2], [1, 4], [1, 3, True]], InvalidRows, "index", 2
    yield [[1, 2, 3, 4, 5, 6, 7], [], []], InvalidRows, "index", 0
    yield [[2], [1, 4, 5], None], InvalidRows, "index", 1
    yield [[1], [2, 1], [1, 2, 3, 4]], InvalidRows, "index", 2
    yield [[3, 2], [1], [1]], NotSorted, "row", 1
    yield [[2], [4, 1], [3, 1]], NotSorted, "row", 2
    yield [[2], [1, 2], [1, 3, 5]], NotSorted, "row", 2
    yield [[2], [1, 4], [1, 1, 5]], NotSorted, "row", 3
    yield [[2], [1, 4], [1, 3, 4]], NotSorted, "row", 3


def wrong_straight():
    """Rows that are not those of a straight piece."""
    for thing in no_lists() + [[], [[1]] * 9, [None] * 9, [[row] for row in range(9)]]:
        yield thing, InvalidRows, "index", None
    for index in range(2):
        for thing in no_lists() + [[]]:
            yield with_one_other(STRAIGHT, index, thing), InvalidRows, "index", index
        for thing in no_numbers():
            yield with_one_other(STRAIGHT, index, [thing]), InvalidRows, "index", index
            yield with_one_other(STRAIGHT, index, [7, thing]), InvalidRows, "index", index
    yield [[]], InvalidRows, "index", 0
    yield [list(range(9))], InvalidRows, "index", 0
    yield [list(range(100000))], InvalidRows, "index", 0
    yield [[1], [2, 3]], InvalidRows, "index", 1
    yield [[1, 2], [3], [], [None]], InvalidRows, "index", 2
    yield [[1, 2], [3], [4, 5], [None]], InvalidRows, "index", 2
    yield [[2, 1], [3], [True]], InvalidRows, "index", 2
    yield [[2, 1]], NotSorted, "row", 1
    yield [[2, 1], [1]], NotSorted, "row", 1
    yield [[1, 2], [2, 2]], NotSorted, "row", 2
    yield [[1, 2], [1]], NotSorted, "row", 2
    yield [[1, 4], [2, 3]], NotSorted, "row", 2
    yield [[1, 2], [3], [2]], NotSorted, "row", 3


def wrong_words():
    for thing in no_lists() + [[], [1] * 41, [None] * 41, [1] * 100000]:
        yield thing, InvalidWord, "index", None
    for thing in no_numbers():
        for index in range(len(WORD)):
            yield with_one_other(WORD, index, thing), InvalidWord, "index", index
        yield [1] * 39 + [thing], InvalidWord, "index", 39
    yield [1, None, True, "x"], InvalidWord, "index", 1


def wrong_orders_of_holes():
    """Orders in which the holes of MISSING cannot be filled."""
    for thing in no_lists():
        yield thing, InvalidOrder, "index", None
    for thing in no_numbers() + [0, -1, 4, 9, 10 ** 70, -10 ** 70]:
        for index in range(3):
            yield with_one_other([1, 2, 1], index, thing), InvalidOrder, "index", index
        yield [2, 1, 1, thing], InvalidOrder, "index", 3
    for order in [[], [1], [2], [1, 2], [2, 1]]:
        yield order, InvalidOrder, "index", len(order)
    yield [3], InvalidOrder, "index", 0
    yield [1, 1, 2], InvalidOrder, "index", 1
    yield [2, 2, 1], InvalidOrder, "index", 1
    yield [1, 2, 2], InvalidOrder, "index", 2
    yield [1, 2, 1, 1], InvalidOrder, "index", 3
    yield [1, 2, 1, 1, None], InvalidOrder, "index", 3
    yield [1, 3, None], InvalidOrder, "index", 1


def wrong_growths():
    """Orders in which the rows of STRAIGHT cannot grow."""
    for thing in no_lists():
        yield thing, InvalidOrder, "index", None
    for thing in no_numbers() + [0, -1, 3, 9, 10 ** 70, -10 ** 70]:
        for index in range(5):
            yield with_one_other([1, 2, 1, 2, 1], index, thing), InvalidOrder, "index", index
        yield [1, 1, 1, 2, 2, thing], InvalidOrder, "index", 5
    for order in [[], [1], [1, 1], [1, 2], [1, 1, 1], [1, 1, 2, 2], [1, 1, 1, 2]]:
        yield order, InvalidOrder, "index", len(order)
    yield [2], InvalidOrder, "index", 0
    yield [1, 2, 2, 1, 1], InvalidOrder, "index", 2
    yield [1, 1, 1, 1], InvalidOrder, "index", 3
    yield [1, 1, 2, 2, 2], InvalidOrder, "index", 4
    yield [1, 2, 1, 2, 1, 1], InvalidOrder, "index", 5
    yield [1, 1, 1, 2, 2, 2, None], InvalidOrder, "index", 5


def wrong(kind, field, numbers):
    """Things that are none of the numbers that are asked for; the field holds the thing itself."""
    for thing in no_numbers() + no_lists() + numbers:
        if type(thing) is not int or thing in numbers:
            yield thing, kind, field, thing


def wrong_numbers(many):
    """Things that are not the number of one of so many."""
    return wrong(InvalidNumber, "number", [-1, -10 ** 70, many, many + 1, 10 ** 70, 10 ** 5000])


def wrong_shapes():
    for thing in no_lists() + [[], [1] * 9, [None] * 9, [1] * 100000]:
        yield thing, InvalidShape, "index", None
    for thing in no_numbers() + [0, -1, 9, 10 ** 70]:
        for index in range(3):
            yield with_one_other(SHAPE, index, thing), InvalidShape, "index", index
    yield [3, 4, 1], InvalidShape, "index", 1
    yield [3, 3, 1, 2, None], InvalidShape, "index", 3
    yield [8, None, 9], InvalidShape, "index", 1


def wrong_missing_within():
    """Missing cells that are none of those of SHAPE."""
    yield from wrong_missing()
    for missing in [[0], [0, 0], [3, 3], [0] * 4, [3, 3, 1, 0], [8, 8], [8] * 8]:
        yield missing, InvalidMissing, "index", None
    for missing in [[4, 0, 0], [4, 3, 1], [4, 4, 1], [8, 8, 8]]:
        yield missing, InvalidMissing, "index", 0
    yield [3, 3, 2], InvalidMissing, "index", 2
    yield [3, 2, 2], InvalidMissing, "index", 2


def wrong_unlike():
    """Rows that are not those of a straight piece of unlike numbers."""
    yield from wrong_straight()
    yield [[1, 1]], NotSorted, "row", 1
    yield [[1, 2], [2]], NotSorted, "row", 2
    yield [[1, 2, 4], [3, 4]], NotSorted, "row", 2
    yield [[1, 3, 3], [4, 5]], NotSorted, "row", 1
    yield [[1, 2], [2, 3], [3]], NotSorted, "row", 2
    yield [[1, 2, 5], [3, 4], [5]], NotSorted, "row", 3
    # Whether they are sorted is asked before, also of later rows.
    yield [[1, 1], [3, 2]], NotSorted, "row", 2
    yield [[1, 2], [2], [2]], NotSorted, "row", 3


def wrong_fillings():
    """Rows that are not those of a filling; they need not be sorted."""
    for thing, kind, field, held in wrong_straight():
        if kind is InvalidRows:
            yield thing, kind, field, held
    yield [[1, 1]], InvalidRows, "index", 0
    yield [[5, 4, 5]], InvalidRows, "index", 0
    yield [[3, 1], [1]], InvalidRows, "index", 1
    yield [[5, 4, 3], [2, 5], [5]], InvalidRows, "index", 1
    yield [[1, 2], [4, 3], [0, 0]], InvalidRows, "index", 2
    yield [[10 ** 59], [10 ** 59]], InvalidRows, "index", 1
    # What else can be wrong of rows is asked before, also of later rows.
    yield [[1, 1], [2, 3, 4]], InvalidRows, "index", 1
    yield [[1, 1], [1], [True]], InvalidRows, "index", 2
    yield [[1, 1], [1], []], InvalidRows, "index", 2


def wrong_tables():
    """Tables that are none of UNLIKE."""
    table = [[0, -1, 0], [1, 0]]
    for thing in no_lists() + [[], table[:1], table + [[]], table + [[0]], [None] * 3]:
        yield thing, InvalidTable, "row", None
    for index in range(2):
        for thing in no_lists() + [[], table[index][:-1], table[index] + [0]]:
            yield with_one_other(table, index, thing), InvalidTable, "row", index + 1
        for column in range(len(table[index])):
            beyond = [LEAST[index][column] - 1, GREATEST[index][column] + 1, 10 ** 70, -10 ** 70]
            for thing in no_numbers() + beyond:
                row = with_one_other(table[index], column, thing)
                yield with_one_other(table, index, row), InvalidTable, "row", index + 1
    yield [[0, 0, 0], [2, 0, 0]], InvalidTable, "row", 2
    yield [[0, -2, 0], None], InvalidTable, "row", 1
    yield [[0, 0, 1], [0, 1]], InvalidTable, "row", 1


def wrong_listed():
    """Rows that are not those of a straight piece with the numbers from 1 on, each once."""
    yield from wrong_straight()
    for rows in [[[2]], [[0]], [[-1]], [[10 ** 70]], [[1, 3]], [[0, 1]], [[1, 1]], [[1, 2], [2]], [[1, 2, 2], [3, 4, 5]]]:
        yield rows, InvalidRows, "index", 0
    yield [[1, 2, 3], [3, 4, 5]], InvalidRows, "index", 0
    yield [[1, 2, 3], [4, 5, 5]], InvalidRows, "index", 1
    yield [[1, 2], [4]], InvalidRows, "index", 1
    yield [[1, 2], [3, 3]], InvalidRows, "index", 1
    yield [[1, 2, 3], [4, 5], [7]], InvalidRows, "index", 2
    # Whether they are sorted is asked before, also of later rows.
    yield [[5, 6], [4]], NotSorted, "row", 2
    yield [[1, 1], [3, 2]], NotSorted, "row", 2
