import fractions
import math
import random
import unittest

from holeslides.errors import InvalidNumber, InvalidShape
from holeslides.listing import all_sorted, count_between, sorted_number, sorted_numbered
from holeslides.shapes import count_sorted
from tests.things import (
    all_growths, all_missing, all_shapes, great_straight, lengths_of, random_shape, straight_that_grows,
    unsorted_rows,
)

STAIRS = [8, 7, 6, 5, 4, 3, 2, 1]
SQUARE = [8] * 8


def small_shapes(most_numbers):
    return [shape for shape in all_shapes(8, 8) if sum(shape) <= most_numbers]


def count_by_cells(shape, missing):
    """The number of ways in which the missing cells grow to a shape, one by one."""
    if shape == missing:
        return 1
    found = 0
    for row, length in enumerate(missing):
        if length < shape[row] and (row == 0 or length < missing[row - 1]):
            found += count_by_cells(shape, missing[:row] + [length + 1] + missing[row + 1:])
    return found


def count_by_determinant(shape, missing):
    """The same by the formula of Aitken: a factorial times a determinant of reciprocals of factorials."""
    many = len(shape)
    table = []
    for row in range(many):
        steps = [shape[row] - missing[column] - row + column for column in range(many)]
        table.append([fractions.Fraction(1, math.factorial(step)) if step >= 0 else 0 for step in steps])
    worth = fractions.Fraction(math.factorial(sum(shape) - sum(missing)))
    for at in range(many):
        pivot = next((row for row in range(at, many) if table[row][at]), None)
        if pivot is None:
            return 0
        if pivot != at:
            table[at], table[pivot] = table[pivot], table[at]
            worth = -worth
        worth *= table[at][at]
        for row in range(at + 1, many):
            times = table[row][at] / table[at][at]
            table[row] = [one - times * other for one, other in zip(table[row], table[at])]
    return worth


def sorted_by_words(shape):
    """All sorted fillings, in the order of the lists of the rows in which 1, 2, 3, and so on stand."""
    return [straight_that_grows(order, len(shape), range(1, sum(shape) + 1)) for order in sorted(all_growths(shape))]


class TestExamples(unittest.TestCase):

    def test_the_examples_of_the_document(self):
        self.assertEqual(list(all_sorted([2, 1])), [[[1, 2], [3]], [[1, 3], [2]]])
        self.assertEqual(sorted_numbered([2, 2], 1), [[1, 3], [2, 4]])
        self.assertEqual(sorted_number([[1, 3], [2, 4]]), 1)
        self.assertEqual(count_between([3, 3], [1, 0]), 5)


class TestCountBetween(unittest.TestCase):

    def test_edges(self):
        self.assertEqual(count_between([1], [0]), 1)
        self.assertEqual(count_between([1], [1]), 1)
        self.assertEqual(count_between([8], [3]), 1)
        self.assertEqual(count_between([1] * 8, [1, 1, 0, 0, 0, 0, 0, 0]), 1)
        self.assertEqual(count_between([2, 1], [1, 0]), 2)
        self.assertEqual(count_between([2, 2], [1, 1]), 1)
        self.assertEqual(count_between([3, 2, 1], [2, 1, 0]), 6)
        self.assertEqual(count_between(STAIRS, [7, 6, 5, 4, 3, 2, 1, 0]), 40320)

    def test_there_is_one_if_all_cells_are_missing(self):
        for shape in small_shapes(8) + [SQUARE, STAIRS]:
            self.assertEqual(count_between(shape, shape), 1)
            self.assertEqual(count_between(shape, list(shape)), 1)

    def test_missing_cells_in_all_of_a_row(self):
        self.assertEqual(count_between([3, 2], [3, 0]), 1)
        self.assertEqual(count_between([3, 2, 2], [3, 0, 0]), 2)
        self.assertEqual(count_between([4, 4, 2], [4, 2, 2]), 1)
        self.assertEqual(count_between([4, 2, 2], [3, 2, 0]), 3)
        self.assertEqual(count_between(SQUARE, [8] * 7 + [0]), 1)
        self.assertEqual(count_between(SQUARE, [8] * 4 + [0] * 4), count_sorted([8] * 4))

    def test_without_missing_cells_the_hooks_tell_it(self):
        for shape in small_shapes(9) + [SQUARE, STAIRS, [8], [1] * 8, [8, 8, 8, 3, 3, 1]]:
            self.assertEqual(count_between(shape, [0] * len(shape)), count_sorted(shape))

    def test_small_shapes_cell_by_cell(self):
        for shape in all_shapes(4, 4):
            for missing in all_missing(4, 4):
                fits = len(missing) == len(shape) and all(gone <= many for gone, many in zip(missing, shape))
                if fits and sum(shape) - sum(missing) <= 7:
                    self.assertEqual(count_between(shape, missing), count_by_cells(shape, missing), (shape, missing))

    def test_great_shapes_by_a_determinant(self):
        numbers = random.Random(14)
        tried = [(SQUARE, [gone] * rows + [0] * (8 - rows)) for gone in [1, 4, 8] for rows in [1, 4, 7]]
        tried += [(SQUARE, [7, 6, 5, 4, 3, 2, 1, 0]), (STAIRS, [4, 3, 2, 1, 0, 0, 0, 0])]
        for _ in range(40):
            shape = random_shape(numbers)
            missing = sorted((numbers.randint(0, 8) for _ in shape), reverse=True)
            tried.append((shape, [min(gone, many) for gone, many in zip(missing, shape)]))
        for shape, missing in tried:
            self.assertEqual(count_between(shape, missing), count_by_determinant(shape, missing), (shape, missing))


class TestNumbers(unittest.TestCase):

    def test_edges(self):
        self.assertEqual(sorted_numbered([1], 0), [[1]])
        self.assertEqual(sorted_number([[1]]), 0)
        self.assertEqual(sorted_numbered([8], 0), [list(range(1, 9))])
        self.assertEqual(sorted_number([list(range(1, 9))]), 0)
        self.assertEqual(sorted_numbered([1] * 8, 0), [[number] for number in range(1, 9)])
        self.assertEqual(sorted_number([[number] for number in range(1, 9)]), 0)
        self.assertEqual(sorted_numbered([2, 2], 0), [[1, 2], [3, 4]])

    def test_all_small_shapes(self):
        for shape in small_shapes(8):
            expected = sorted_by_words(shape)
            self.assertEqual(len(expected), count_sorted(shape))
            for number, rows in enumerate(expected):
                self.assertEqual(sorted_numbered(shape, number), rows)
                self.assertEqual(sorted_number(rows), number)

    def test_the_first_and_the_last_one_by_rows_and_by_columns(self):
        for shape in small_shapes(9) + [SQUARE, STAIRS, [8, 8, 8, 3, 3, 1]]:
            by_rows = [row for row, length in enumerate(shape, 1) for _ in range(length)]
            by_columns = [row for column in range(8) for row, length in enumerate(shape, 1) if length > column]
            first = straight_that_grows(by_rows, len(shape), range(1, sum(shape) + 1))
            last = straight_that_grows(by_columns, len(shape), range(1, sum(shape) + 1))
            many = count_sorted(shape)
            self.assertEqual((sorted_numbered(shape, 0), sorted_number(first)), (first, 0))
            self.assertEqual((sorted_numbered(shape, many - 1), sorted_number(last)), (last, many - 1))
            with self.assertRaises(InvalidNumber):
                sorted_numbered(shape, many)

    def test_great_numbers_ascend_with_the_lists_of_rows(self):
        numbers = random.Random(17)
        for shape in [SQUARE, STAIRS, [8, 8, 5, 5, 2]]:
            many = count_sorted(shape)
            chosen = sorted({numbers.randrange(many) for _ in range(6)} | {1, many - 2})
            found = [sorted_numbered(shape, number) for number in chosen]
            self.assertEqual([sorted_number(rows) for rows in found], chosen)
            orders = []
            for rows in found:
                self.assertEqual(lengths_of(rows), shape)
                self.assertEqual(unsorted_rows([0] * len(rows), rows), [])
                row_of = {number: row for row, listed in enumerate(rows) for number in listed}
                self.assertEqual(sorted(row_of), list(range(1, sum(shape) + 1)))
                orders.append([row_of[number] for number in sorted(row_of)])
            self.assertEqual(orders, sorted(orders))

    def test_great_fillings_come_back(self):
        for rows in great_straight(20, unlike=True):
            ascending = sorted(sum(rows, []))
            ranks = [[ascending.index(number) + 1 for number in row] for row in rows]
            number = sorted_number(ranks)
            self.assertTrue(0 <= number < count_sorted(lengths_of(ranks)))
            self.assertEqual(sorted_numbered(lengths_of(ranks), number), ranks)


class TestAllSorted(unittest.TestCase):

    def test_edges(self):
        self.assertEqual(list(all_sorted([1])), [[[1]]])
        self.assertEqual(list(all_sorted([8])), [[list(range(1, 9))]])
        self.assertEqual(list(all_sorted([1] * 8)), [[[number] for number in range(1, 9)]])

    def test_all_small_shapes(self):
        for shape in small_shapes(9):
            self.assertEqual(list(all_sorted(shape)), sorted_by_words(shape))

    def test_the_first_ones_of_great_shapes(self):
        for shape in [SQUARE, STAIRS]:
            found = [rows for _, rows in zip(range(30), all_sorted(shape))]
            self.assertEqual(found[0], sorted_numbered(shape, 0))
            for number in [1, 2, 7, 29]:
                self.assertEqual(found[number], sorted_numbered(shape, number))

    def test_it_is_a_generator_that_ends(self):
        listed = all_sorted([2, 1])
        self.assertIs(iter(listed), listed)
        self.assertEqual(next(listed), [[1, 2], [3]])
        self.assertEqual(next(listed), [[1, 3], [2]])
        for _ in range(2):
            self.assertRaises(StopIteration, next, listed)

    def test_the_argument_is_checked_when_the_first_one_is_asked_for(self):
        for shape in [None, [], [1, 2], [True], [9]]:
            listed = all_sorted(shape)
            self.assertRaises(InvalidShape, next, listed)

    def test_the_argument_is_read_when_the_first_one_is_asked_for(self):
        shape = [5, 5]
        listed = all_sorted(shape)
        shape[:] = [2, 1]
        self.assertEqual(list(listed), [[[1, 2], [3]], [[1, 3], [2]]])
        shape = [0, None]
        listed = all_sorted(shape)
        shape[:] = [1]
        self.assertEqual(list(listed), [[[1]]])
        shape = [2, 1]
        listed = all_sorted(shape)
        shape.append(None)
        with self.assertRaises(InvalidShape) as caught:
            next(listed)
        self.assertEqual(caught.exception.index, 2)

    def test_later_changes_to_the_argument_have_no_effect(self):
        for change in [lambda shape: shape.clear(), lambda shape: shape.append(1), lambda shape: shape.sort()]:
            shape = [3, 2]
            listed = all_sorted(shape)
            found = [next(listed)]
            change(shape)
            self.assertEqual(found + list(listed), sorted_by_words([3, 2]))

    def test_changes_to_what_is_yielded_have_no_effect(self):
        listed, found = all_sorted([3, 2]), []
        for rows in listed:
            found.append([list(row) for row in rows])
            for row in rows:
                row.clear()
            rows.clear()
        self.assertEqual(found, sorted_by_words([3, 2]))

    def test_two_of_them_go_on_beside_each_other(self):
        one, other = all_sorted([3, 2]), all_sorted([3, 2])
        next(one)
        self.assertEqual(next(other), [[1, 2, 3], [4, 5]])
        self.assertEqual(next(one), [[1, 2, 4], [3, 5]])
        self.assertEqual(next(other), [[1, 2, 4], [3, 5]])


if __name__ == "__main__":
    unittest.main()
