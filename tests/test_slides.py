import collections
import random
import unittest

from holeslides.pieces import word_of
from holeslides.slides import count_orders, ends, holes, slide, slide_back, straightened, straightened_by
from holeslides.words import straight_of
from tests.by_cells import (
    all_orders, any_order, ends_by_cells, holes_by_cells, number_back, numbered, reaches_of, run_by_cells,
    slide_back_by_cells, slide_by_cells,
)
from tests.things import all_missing, great_pieces, small_pieces, straight_by_words, unsorted_rows

MISSING = [2, 1, 0]
ROWS = [[2], [1, 4], [1, 3, 5]]
STAIRS = [8, 7, 6, 5, 4, 3, 2, 1]


def full_square():
    return [list(range(row, row + 8)) for row in range(8)]


class AllPieces:
    """Runs `check_all` of a class of tests over many pieces."""

    def test_all_small_pieces(self):
        for missing, rows in small_pieces(3, 3, 5, 3):
            self.check_all(missing, rows)

    def test_many_great_pieces(self):
        for missing, rows in great_pieces(3000):
            self.check_all(missing, rows)


class TestExamples(unittest.TestCase):

    def test_the_examples_of_the_document(self):
        self.assertEqual(holes(MISSING), [1, 2])
        self.assertEqual(ends(MISSING, ROWS), [1, 4])
        self.assertEqual(slide(MISSING, ROWS, 1), ([1, 1, 0], [[1, 2], [3, 4], [1, 5]], 3))
        self.assertEqual(slide(MISSING, ROWS, 2), ([2, 0, 0], [[2], [1, 1, 4], [3, 5]], 3))
        self.assertEqual(slide_back([1, 1, 0], [[1, 2], [3, 4], [1, 5]], 3), (MISSING, ROWS, 1))
        self.assertEqual(straightened(MISSING, ROWS), [[1, 1, 2], [3, 4], [5]])
        self.assertEqual(straightened_by(MISSING, ROWS, [1, 2, 1]), ([[1, 1, 2], [3, 4], [5]], [3, 3, 2]))
        self.assertEqual(count_orders([2, 1]), 2)


class TestHoles(unittest.TestCase):

    def test_edges(self):
        self.assertEqual(holes([0]), [])
        self.assertEqual(holes([0] * 8), [])
        self.assertEqual(holes([8]), [1])
        self.assertEqual(holes([8] * 8), [8])
        self.assertEqual(holes(STAIRS), [1, 2, 3, 4, 5, 6, 7, 8])
        self.assertEqual(holes([3, 3, 0]), [2])
        self.assertEqual(holes([1, 0, 0]), [1])

    def test_all_lists_of_missing_cells(self):
        for missing in all_missing(5, 4):
            self.assertEqual(holes(missing), holes_by_cells(missing), missing)


class TestEnds(unittest.TestCase):

    def test_edges(self):
        self.assertEqual(ends([0], [[]]), [1])
        self.assertEqual(ends([0], [[5]]), [1, 2])
        self.assertEqual(ends([1], [[]]), [1, 2])
        self.assertEqual(ends([0], [list(range(8))]), [2])
        self.assertEqual(ends([8], [[]]), [2])
        self.assertEqual(ends([0, 0, 0], [[], [], []]), [1])
        self.assertEqual(ends([0, 0, 0], [[1], [], []]), [1, 2])
        self.assertEqual(ends([0] * 8, full_square()), [])
        self.assertEqual(ends([8] * 8, [[]] * 8), [])
        self.assertEqual(ends(STAIRS, [[]] * 8), [2, 3, 4, 5, 6, 7, 8])

    def test_no_row_is_put_below_the_eighth(self):
        self.assertEqual(ends([0] * 8, [[row] for row in range(8)]), [1])
        self.assertEqual(ends([0] * 7, [[row] for row in range(7)]), [1, 8])

    def test_no_row_is_put_below_one_that_reaches_to_no_column(self):
        self.assertEqual(ends([1, 0], [[3], []]), [1, 2])

    def test_all_small_pieces_and_many_great_ones(self):
        for missing, rows in list(small_pieces(3, 3, 4, 2)) + great_pieces(2000):
            self.assertEqual(ends(missing, rows), ends_by_cells(missing, rows), (missing, rows))


class TestSlide(AllPieces, unittest.TestCase):

    def check_all(self, missing, rows):
        for row in holes(missing):
            found = slide(missing, rows, row)
            self.assertIs(type(found), tuple)
            self.assertEqual(found, slide_by_cells(missing, rows, row), (missing, rows, row))
            before, after = reaches_of(missing, rows), reaches_of(found[0], found[1])
            before[found[2] - 1] -= 1
            self.assertEqual(after, before)
            self.assertEqual(unsorted_rows(found[0], found[1]), [])

    def test_the_lesser_neighbour_goes_into_the_hole(self):
        self.assertEqual(slide([1, 0], [[2], [3]], 1), ([0, 0], [[2], [3]], 1))
        self.assertEqual(slide([1, 0], [[4], [3]], 1), ([0, 0], [[3, 4], []], 2))

    def test_the_lower_one_of_equal_neighbours_goes_into_the_hole(self):
        self.assertEqual(slide([1, 0], [[3], [3]], 1), ([0, 0], [[3, 3], []], 2))
        self.assertEqual(slide([1, 0], [[1, 2], [1, 2]], 1), ([0, 0], [[1, 1, 2], [2]], 2))
        self.assertEqual(slide([1, 0], [[1, 1], [0, 2]], 1), ([0, 0], [[0, 1, 1], [2]], 2))
        self.assertEqual(slide([1, 0, 0], [[2, 2], [0, 3], [1]], 1), ([0, 0, 0], [[0, 2, 2], [1, 3], []], 3))

    def test_the_only_neighbour_goes_into_the_hole(self):
        self.assertEqual(slide([1], [[5, 6]], 1), ([0], [[5, 6]], 1))
        self.assertEqual(slide([1, 0], [[], [7]], 1), ([0, 0], [[7], []], 2))

    def test_a_hole_without_neighbours_is_gone(self):
        self.assertEqual(slide([1], [[]], 1), ([0], [[]], 1))
        self.assertEqual(slide([3, 1], [[], [5]], 1), ([2, 1], [[], [5]], 1))
        self.assertEqual(slide([2, 2], [[], []], 2), ([2, 1], [[], []], 2))
        self.assertEqual(slide([8] * 8, [[]] * 8, 8), ([8] * 7 + [7], [[]] * 8, 8))

    def test_a_missing_cell_is_no_neighbour(self):
        self.assertEqual(slide([2, 2, 1], [[1], [2], [0, 3]], 2), ([2, 1, 1], [[1], [0, 2], [3]], 3))
        self.assertEqual(slide([3, 1, 1], [[], [5], []], 1), ([2, 1, 1], [[], [5], []], 1))

    def test_rows_without_numbers_stay(self):
        self.assertEqual(slide([1, 0, 0], [[], [4], []], 1), ([0, 0, 0], [[4], [], []], 2))

    def test_numbers_of_any_size(self):
        great = 10 ** 59
        self.assertEqual(slide([1, 0], [[great], [great]], 1), ([0, 0], [[great, great], []], 2))
        self.assertEqual(slide([1, 0], [[-great], [1 - great]], 1), ([0, 0], [[-great], [1 - great]], 1))


class TestSlideBack(AllPieces, unittest.TestCase):

    def check_all(self, missing, rows):
        for row in ends(missing, rows):
            found = slide_back(missing, rows, row)
            self.assertIs(type(found), tuple)
            self.assertEqual(found, slide_back_by_cells(missing, rows, row), (missing, rows, row))
            before = reaches_of(missing, rows) + ([0] if row > len(rows) else [])
            before[row - 1] += 1
            self.assertEqual(reaches_of(found[0], found[1]), before)
            self.assertEqual(unsorted_rows(found[0], found[1]), [])

    def test_the_greater_neighbour_goes_into_the_cell(self):
        self.assertEqual(slide_back([0, 0], [[1, 3], [2]], 2), ([1, 0], [[1], [2, 3]], 1))
        self.assertEqual(slide_back([0, 0], [[1, 2], [3]], 2), ([1, 0], [[2], [1, 3]], 1))
        self.assertEqual(slide_back([1, 0], [[4], [5]], 2), ([1, 1], [[4], [5]], 2))

    def test_the_upper_one_of_equal_neighbours_goes_into_the_cell(self):
        self.assertEqual(slide_back([0, 0], [[1, 2], [2]], 2), ([1, 0], [[1], [2, 2]], 1))
        self.assertEqual(slide_back([1, 0], [[5], [5]], 2), ([2, 0], [[], [5, 5]], 1))
        self.assertEqual(slide_back([0, 0], [[1, 3], [3]], 2), ([1, 0], [[1], [3, 3]], 1))

    def test_the_only_neighbour_goes_into_the_cell(self):
        self.assertEqual(slide_back([0], [[4, 5]], 1), ([1], [[4, 5]], 1))
        self.assertEqual(slide_back([0], [[4]], 2), ([1, 0], [[], [4]], 1))

    def test_a_cell_without_neighbours_is_missing(self):
        self.assertEqual(slide_back([0], [[]], 1), ([1], [[]], 1))
        self.assertEqual(slide_back([1], [[]], 2), ([1, 1], [[], []], 2))
        self.assertEqual(slide_back([2, 1], [[5], []], 2), ([2, 2], [[5], []], 2))
        self.assertEqual(slide_back([8] * 7, [[]] * 7, 8), ([8] * 7 + [1], [[]] * 8, 8))

    def test_a_new_row_is_put_below_the_others(self):
        self.assertEqual(slide_back([0, 0], [[1, 2], [3]], 3), ([1, 0, 0], [[2], [1], [3]], 1))
        self.assertEqual(slide_back([1], [[7]], 2), ([1, 1], [[7], []], 2))
        rows = [[row] for row in range(7)]
        self.assertEqual(slide_back([0] * 7, rows, 8), ([1] + [0] * 7, [[]] + rows, 1))


class TestThereAndBack(AllPieces, unittest.TestCase):

    def check_all(self, missing, rows):
        for row in holes(missing):
            after, moved, end = slide(missing, rows, row)
            self.assertIn(end, ends(after, moved))
            self.assertEqual(slide_back(after, moved, end), (missing, rows, row))
        for row in ends(missing, rows):
            after, moved, hole = slide_back(missing, rows, row)
            self.assertIn(hole, holes(after))
            new = row > len(rows)
            expected = (missing + [0], rows + [[]], row) if new else (missing, rows, row)
            self.assertEqual(slide(after, moved, hole), expected)

    def test_a_new_row_stays_without_numbers(self):
        after, moved, hole = slide_back([0], [[4]], 2)
        self.assertEqual(slide(after, moved, hole), ([0, 0], [[4], []], 2))


class TestAnyOrder(unittest.TestCase):

    def test_edges_of_straightened(self):
        self.assertEqual(straightened([0], [[]]), [])
        self.assertEqual(straightened([8] * 8, [[]] * 8), [])
        self.assertEqual(straightened([0, 0, 0], [[1, 2], [], []]), [[1, 2]])
        self.assertEqual(straightened([0] * 8, full_square()), full_square())
        self.assertEqual(straightened([4, 1, 1, 0], [[], [5, 5, 6], [7], []]), [[5, 5, 6], [7]])
        self.assertEqual(straightened([1, 0], [[3], [3]]), [[3, 3]])
        self.assertEqual(straightened([7, 0], [[1], []]), [[1]])

    def test_edges_of_straightened_by(self):
        self.assertEqual(straightened_by([0], [[]], []), ([], []))
        self.assertEqual(straightened_by([0, 0], [[1, 2], []], []), ([[1, 2]], []))
        self.assertEqual(straightened_by([2], [[]], [1, 1]), ([], [1, 1]))
        self.assertEqual(straightened_by([1, 0], [[3], [3]], [1]), ([[3, 3]], [2]))
        self.assertEqual(straightened_by(MISSING, ROWS, [2, 1, 1]), ([[1, 1, 2], [3, 4], [5]], [3, 2, 3]))

    def test_all_orders_of_small_pieces(self):
        for missing, rows in small_pieces(3, 3, 4, 3):
            expected = straightened(missing, rows)
            counts = set()
            for order in all_orders(missing):
                found = straightened_by(missing, rows, order)
                self.assertIs(type(found), tuple)
                self.assertEqual(found, run_by_cells(missing, rows, order))
                self.assertEqual(found[0], expected)
                counts.add(tuple(sorted(collections.Counter(found[1]).items())))
            self.assertEqual(len(counts), 1, "a row gets shorter just as often in each order")

    def test_many_orders_of_great_pieces(self):
        numbers = random.Random(8)
        for missing, rows in great_pieces(400):
            expected = straightened(missing, rows)
            self.assertNotIn([], expected)
            self.assertEqual(unsorted_rows([0] * len(expected), expected), [])
            for _ in range(3):
                order = any_order(missing, numbers)
                found = straightened_by(missing, rows, order)
                self.assertEqual(found, run_by_cells(missing, rows, order))
                self.assertEqual(found[0], expected)

    def test_the_straight_rows_of_the_word_are_those_of_the_straightened_piece(self):
        for missing, rows in list(small_pieces(3, 3, 5, 3)) + great_pieces(2000):
            word = word_of(missing, rows)
            if 1 <= len(word) <= 40:
                self.assertEqual(straight_of(word), straightened(missing, rows), (missing, rows))

    def test_pieces_of_more_numbers_than_a_word_has(self):
        numbers = random.Random(9)
        for side in [1, 2, 3, 4]:
            missing = [side] * side + [0] * (8 - side)
            rows = [[3 * row + column for column in range(gone, 8)] for row, gone in enumerate(missing)]
            expected = straight_by_words(word_of(missing, rows))[0]
            self.assertEqual(straightened(missing, rows), expected)
            self.assertEqual(straightened_by(missing, rows, any_order(missing, numbers))[0], expected)


class TestCountOrders(unittest.TestCase):

    def test_edges(self):
        self.assertEqual(count_orders([0]), 1)
        self.assertEqual(count_orders([0] * 8), 1)
        self.assertEqual(count_orders([8]), 1)
        self.assertEqual(count_orders([1] * 8), 1)
        self.assertEqual(count_orders([3, 2, 0]), 5)
        self.assertEqual(count_orders([3, 2, 1, 0, 0]), 16)
        self.assertEqual(count_orders([8] * 8), 22081374992701950398847674830857600)

    def test_all_orders_are_counted(self):
        for missing in all_missing(4, 3):
            if sum(missing) <= 8:
                self.assertEqual(count_orders(missing), len(list(all_orders(missing))), missing)


class TestEqualNumbers(unittest.TestCase):

    def check_all(self, missing, rows):
        ranks, numbers = numbered(missing, rows)
        for row in holes(missing):
            after, moved, short = slide(missing, ranks, row)
            self.assertEqual(slide(missing, rows, row), (after, number_back(moved, numbers), short))
        for row in ends(missing, rows):
            after, moved, hole = slide_back(missing, ranks, row)
            self.assertEqual(slide_back(missing, rows, row), (after, number_back(moved, numbers), hole))
        self.assertEqual(straightened(missing, rows), number_back(straightened(missing, ranks), numbers))
        order = any_order(missing, random.Random(3))
        straight, shortened = straightened_by(missing, ranks, order)
        found = straightened_by(missing, rows, order)
        self.assertEqual(found, (number_back(straight, numbers), shortened))

    def test_equal_numbers_are_as_unlike_ones(self):
        for missing, rows in list(small_pieces(3, 3, 5, 2)) + great_pieces(500):
            self.check_all(missing, rows)


class TestCutPieces(unittest.TestCase):

    def cut(self, missing, rows, low, high):
        """The piece without the numbers less than `low` and those greater than `high`."""
        gone = [many + sum(number < low for number in row) for many, row in zip(missing, rows)]
        return gone, [[number for number in row if low <= number <= high] for row in rows]

    def check_all(self, missing, rows):
        straight = straightened(missing, rows)
        found = sorted(set(sum(rows, [])))
        for low in found:
            for high in found + [found[-1] + 5]:
                rest = self.cut(missing, rows, low, high)
                other = self.cut([0] * len(straight), straight, low, high)
                self.assertEqual(straightened(*rest), straightened(*other), (missing, rows, low, high))

    def test_both_rests_straighten_to_the_same(self):
        for missing, rows in list(small_pieces(3, 3, 5, 3)) + great_pieces(100):
            if any(rows):
                self.check_all(missing, rows)


class TestOutToTheRim(unittest.TestCase):

    def test_cells_are_put_until_there_is_no_end(self):
        for missing, rows in great_pieces(40):
            found = []
            for choose in [min, max, random.Random(2).choice]:
                piece = (missing, rows)
                while ends(*piece):
                    piece = slide_back(*piece, choose(ends(*piece)))[:2]
                self.assertEqual(reaches_of(*piece), [8] * 8)
                found.append(piece)
            self.assertEqual(found[0], found[1])
            self.assertEqual(found[0], found[2])


if __name__ == "__main__":
    unittest.main()
