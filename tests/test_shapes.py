import time
import unittest

from holeslides.errors import InvalidShape
from holeslides.shapes import corners, count_sorted, hooks, turned_over
from tests.things import all_shapes, no_lists, no_numbers

FUNCTIONS = [corners, turned_over, hooks, count_sorted]


def cells_of_shape(shape):
    return {(row, column) for row in range(1, len(shape) + 1) for column in range(1, shape[row - 1] + 1)}


def without_last_cell(shape, row):
    rest = list(shape)
    rest[row - 1] -= 1
    return [length for length in rest if length > 0]


class TestAnswers(unittest.TestCase):

    def test_the_examples_of_the_document(self):
        self.assertEqual(corners([3, 3, 1]), [2, 3])
        self.assertEqual(turned_over([3, 3, 1]), [3, 2, 2])
        self.assertEqual(hooks([3, 2]), [[4, 3, 1], [2, 1]])
        self.assertEqual(count_sorted([3, 2]), 5)

    def test_one_row_of_one_cell(self):
        self.assertEqual(corners([1]), [1])
        self.assertEqual(turned_over([1]), [1])
        self.assertEqual(hooks([1]), [[1]])
        self.assertEqual(count_sorted([1]), 1)

    def test_one_row_and_one_column(self):
        self.assertEqual(corners([8]), [1])
        self.assertEqual(turned_over([8]), [1] * 8)
        self.assertEqual(hooks([8]), [[8, 7, 6, 5, 4, 3, 2, 1]])
        self.assertEqual(count_sorted([8]), 1)
        self.assertEqual(corners([1] * 8), [8])
        self.assertEqual(turned_over([1] * 8), [8])
        self.assertEqual(hooks([1] * 8), [[8], [7], [6], [5], [4], [3], [2], [1]])
        self.assertEqual(count_sorted([1] * 8), 1)

    def test_eight_rows_of_eight_cells(self):
        self.assertEqual(corners([8] * 8), [8])
        self.assertEqual(turned_over([8] * 8), [8] * 8)
        self.assertEqual(hooks([8] * 8), [list(range(15 - row, 7 - row, -1)) for row in range(8)])
        self.assertEqual(count_sorted([8] * 8), 22081374992701950398847674830857600)

    def test_stairs(self):
        stairs = [8, 7, 6, 5, 4, 3, 2, 1]
        self.assertEqual(corners(stairs), stairs[::-1])
        self.assertEqual(turned_over(stairs), stairs)
        self.assertEqual(hooks([3, 2, 1]), [[5, 3, 1], [3, 1], [1]])
        self.assertEqual(count_sorted([3, 2, 1]), 16)

    def test_two_equal_rows_have_the_numbers_of_catalan(self):
        counts = [count_sorted([length, length]) for length in range(1, 9)]
        self.assertEqual(counts, [1, 2, 5, 14, 42, 132, 429, 1430])


class TestAllShapes(unittest.TestCase):

    def test_corners_are_cells_without_right_and_lower_neighbours(self):
        for shape in all_shapes(8, 8):
            cells = cells_of_shape(shape)
            expected = [
                row for row in range(1, len(shape) + 1)
                if (row + 1, shape[row - 1]) not in cells and (row, shape[row - 1] + 1) not in cells
            ]
            self.assertEqual(corners(shape), expected, shape)

    def test_columns_are_counted_cell_by_cell(self):
        for shape in all_shapes(8, 8):
            lengths = {}
            for _, column in cells_of_shape(shape):
                lengths[column] = lengths.get(column, 0) + 1
            self.assertEqual(turned_over(shape), [lengths[column] for column in sorted(lengths)], shape)
            self.assertEqual(turned_over(turned_over(shape)), shape)

    def test_hooks_are_counted_cell_by_cell(self):
        for shape in all_shapes(5, 5):
            cells = cells_of_shape(shape)
            for row, column in cells:
                hook = [(r, c) for r, c in cells if r == row and c >= column or c == column and r > row]
                self.assertEqual(hooks(shape)[row - 1][column - 1], len(hook), shape)
            self.assertEqual([len(row) for row in hooks(shape)], shape)

    def test_the_greatest_number_stands_at_a_corner(self):
        # The fillings are told by where their greatest number stands: so many
        # as the shapes have that come of taking one corner out.
        counts = {(): 1}
        for shape in sorted(all_shapes(8, 8), key=sum):
            ways = 0
            for row in range(1, len(shape) + 1):
                if row == len(shape) or shape[row - 1] > shape[row]:
                    ways += counts[tuple(without_last_cell(shape, row))]
            counts[tuple(shape)] = ways
            self.assertEqual(count_sorted(shape), ways, shape)


class TestWrongShapes(unittest.TestCase):

    def check(self, shape, index):
        for function in FUNCTIONS:
            with self.assertRaises(InvalidShape) as caught:
                function(shape)
            self.assertEqual(caught.exception.index, index)
            self.assertIs(type(caught.exception.index), type(index))

    def test_things_that_are_no_lists(self):
        for thing in no_lists():
            self.check(thing, None)

    def test_lists_too_short_and_too_long(self):
        self.check([], None)
        self.check([1] * 9, None)
        self.check([None] * 9, None)
        self.check([1] * 100000, None)

    def test_things_that_are_no_whole_numbers(self):
        for thing in no_numbers():
            self.check([thing], 0)
            self.check([3, 2, thing, 1], 2)
            self.check([1] * 7 + [thing], 7)

    def test_numbers_out_of_their_limits(self):
        for number in [0, -1, 9, 100, 10 ** 70, -10 ** 5000, 10 ** 5000]:
            self.check([number], 0)
            self.check([8, number], 1)

    def test_lengths_greater_than_the_one_before(self):
        self.check([1, 2], 1)
        self.check([8, 5, 5, 6, 5], 3)
        self.check([2, 1, 2], 2)

    def test_the_first_of_several_wrong_things(self):
        self.check([3, 4, None, 9], 1)
        self.check([3, None, 4, 9], 1)
        self.check([9, 10], 0)
        self.check([0, True, 5], 0)
        self.check([4, 4, 0, "x"], 2)
        self.check([8, 8, 8, 8, 8, 8, 8, False], 7)


class TestLists(unittest.TestCase):

    def test_arguments_stay_as_they_are(self):
        for function in FUNCTIONS:
            for shape in [[1], [3, 3, 1], [8] * 8]:
                before = list(shape)
                function(shape)
                self.assertEqual(shape, before)
            wrong = [3, "x", 4]
            with self.assertRaises(InvalidShape):
                function(wrong)
            self.assertEqual(wrong, [3, "x", 4])

    def test_returned_lists_are_new(self):
        for function in [corners, turned_over, hooks]:
            for shape in [[1], [2, 1], [2, 2], [8] * 8]:
                first = function(shape)
                self.assertIs(type(first), list)
                self.assertIsNot(first, shape)
                expected = function(shape)
                self.assertIsNot(first, expected)
                first.clear()
                self.assertEqual(function(shape), expected)

    def test_no_list_occurs_twice_in_hooks(self):
        for shape in [[1], [1, 1, 1], [8] * 8]:
            found = hooks(shape) + hooks(shape)
            self.assertEqual(len({id(row) for row in found}), 2 * len(shape))
            hooks(shape)[0].clear()
            self.assertEqual([len(row) for row in hooks(shape)], shape)

    def test_arguments_by_name(self):
        for function in FUNCTIONS:
            self.assertEqual(function(shape=[3, 2]), function([3, 2]))

    def test_answers_are_whole_numbers(self):
        for shape in [[1], [3, 2], [8] * 8]:
            numbers = corners(shape) + turned_over(shape) + [count_sorted(shape)]
            for number in sum(hooks(shape), numbers):
                self.assertIs(type(number), int)

    def test_every_call_ends_within_ten_seconds(self):
        for function in FUNCTIONS:
            for shape in [[8] * 8, [8, 7, 6, 5, 4, 3, 2, 1]]:
                start = time.perf_counter()
                function(shape)
                self.assertLess(time.perf_counter() - start, 10)


if __name__ == "__main__":
    unittest.main()
