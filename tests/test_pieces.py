import copy
import random
import time
import unittest

from holeslides.errors import InvalidMissing, InvalidRows, NotSorted
from holeslides.pieces import is_sorted, word_of
from tests.things import all_lengths, all_missing, cells_of, fillings, no_lists, no_numbers, unsorted_rows

# Equal numbers stand along the rows of this piece, and missing cells are above some of them.
MISSING = [2, 1, 0]
ROWS = [[2], [1, 4], [1, 3, 5]]


def full_square():
    """Eight rows of eight cells."""
    return [list(range(row, row + 8)) for row in range(8)]


def word_by_cells(missing, rows):
    cells = cells_of(missing, rows)
    return [cells[place] for place in sorted(cells, key=lambda place: (-place[0], place[1]))]


class Checks(unittest.TestCase):

    def check_piece(self, missing, rows):
        """A piece is judged by its cells, and its word is read or refused."""
        wrong = unsorted_rows(missing, rows)
        self.assertIs(is_sorted(missing, rows), not wrong, (missing, rows))
        if wrong:
            self.check_not_sorted(missing, rows, wrong[0])
        else:
            self.assertEqual(word_of(missing, rows), word_by_cells(missing, rows), (missing, rows))

    def check_not_sorted(self, missing, rows, row):
        self.assertIs(is_sorted(missing, rows), False)
        with self.assertRaises(NotSorted) as caught:
            word_of(missing, rows)
        self.assertEqual(caught.exception.row, row, (missing, rows))
        self.assertIs(type(caught.exception.row), int)

    def check_error(self, kind, index, missing, rows):
        for function in [is_sorted, word_of]:
            with self.assertRaises(kind) as caught:
                function(missing, rows)
            self.assertEqual(caught.exception.index, index)
            self.assertIs(type(caught.exception.index), type(index))


class TestAnswers(Checks):

    def test_the_examples_of_the_document(self):
        self.assertIs(is_sorted([1, 0], [[2], [1, 3]]), True)
        self.assertIs(is_sorted([0, 0], [[1, 1], [1]]), False)
        self.assertEqual(word_of([1, 0], [[2], [1, 3]]), [1, 3, 2])
        self.assertIs(is_sorted(MISSING, ROWS), True)
        self.assertEqual(word_of(MISSING, ROWS), [1, 3, 5, 1, 4, 2])

    def test_one_row_of_one_cell(self):
        self.assertIs(is_sorted([0], [[7]]), True)
        self.assertEqual(word_of([0], [[7]]), [7])
        self.assertEqual(word_of([7], [[7]]), [7])

    def test_eight_rows_of_eight_cells(self):
        self.assertIs(is_sorted([0] * 8, full_square()), True)
        expected = [number for row in full_square()[::-1] for number in row]
        self.assertEqual(word_of([0] * 8, full_square()), expected)
        self.assertEqual(len(expected), 64)

    def test_pieces_without_numbers(self):
        for missing in [[0], [8], [3, 1], [0] * 8, [8] * 8, [8, 7, 6, 5, 4, 3, 2, 1]]:
            rows = [[] for _ in missing]
            self.assertIs(is_sorted(missing, rows), True)
            self.assertEqual(word_of(missing, rows), [])

    def test_rows_without_numbers(self):
        self.assertEqual(word_of([4, 1, 1, 0], [[], [5, 5, 6], [7], []]), [7, 5, 5, 6])
        self.assertEqual(word_of([1, 0, 0], [[2], [], []]), [2])
        self.assertEqual(word_of([3, 0], [[], [3, 2 + 2, 4]]), [3, 4, 4])
        self.check_not_sorted([3, 0], [[], [3, 2, 4]], 2)

    def test_equal_numbers_next_to_each_other_in_a_row(self):
        self.assertEqual(word_of([0], [[4, 4, 4]]), [4, 4, 4])
        self.assertEqual(word_of([0, 0], [[1, 1], [2, 2]]), [2, 2, 1, 1])

    def test_equal_numbers_next_to_each_other_in_a_column(self):
        self.check_not_sorted([0, 0], [[4], [4]], 2)
        self.check_not_sorted([0, 0], [[1, 2], [2, 2]], 2)
        self.check_not_sorted([1, 0, 0], [[9], [1, 10], [2, 10]], 3)

    def test_a_number_is_compared_with_the_one_above_not_the_one_beside_it(self):
        self.assertIs(is_sorted([2, 0], [[5], [1, 2, 6]]), True)
        self.assertIs(is_sorted([2, 0], [[5], [1, 2, 5]]), False)
        self.assertIs(is_sorted([2, 0], [[5], [1, 2]]), True)
        self.assertIs(is_sorted([1, 1], [[5], [5]]), False)

    def test_the_first_row_out_of_order_is_told(self):
        self.check_not_sorted([0], [[2, 1]], 1)
        self.check_not_sorted([0, 0], [[2, 1], [1]], 1)
        self.check_not_sorted([0, 0, 0], [[1, 2], [2, 1], [1]], 2)
        self.check_not_sorted([0, 0, 0], [[1, 2], [2], [1]], 3)
        self.check_not_sorted([0] * 8, full_square()[:7] + [[7] * 8], 8)

    def test_numbers_of_any_size_and_sign(self):
        great = 10 ** 59
        self.assertEqual(word_of([0, 0], [[-great, 0], [great]]), [great, -great, 0])
        self.check_not_sorted([0, 0], [[great], [great]], 2)
        self.check_not_sorted([0], [[-1, -2]], 1)
        self.check_not_sorted([0], [[great + 1, great]], 1)


class TestManyPieces(Checks):

    def test_all_small_pieces(self):
        for missing in all_missing(3, 2):
            for lengths in all_lengths(missing, 3):
                if sum(lengths) <= 5:
                    for rows in fillings(lengths, 3):
                        self.check_piece(missing, rows)

    def test_many_great_pieces(self):
        numbers = random.Random(5)
        for _ in range(3000):
            many = numbers.randint(1, 8)
            missing = sorted((numbers.randint(0, 8) for _ in range(many)), reverse=True)
            rows, reach = [], 8
            for row, gone in enumerate(missing):
                reach = numbers.randint(gone, reach)
                rows.append([3 * row + column + numbers.randint(0, 1) for column in range(gone, reach)])
            self.check_piece(missing, rows)


class TestWrongMissing(Checks):

    def check(self, missing, index):
        for rows in [[[]], [[1], [2]], None, [], "x", [[2, 1]]]:
            self.check_error(InvalidMissing, index, missing, rows)

    def test_things_that_are_no_lists(self):
        for thing in no_lists():
            self.check(thing, None)

    def test_lists_too_short_and_too_long(self):
        self.check([], None)
        self.check([0] * 9, None)
        self.check([None] * 9, None)

    def test_things_that_are_no_whole_numbers(self):
        for thing in no_numbers():
            self.check([thing], 0)
            self.check([1, 0, thing], 2)

    def test_numbers_out_of_their_limits(self):
        for number in [-1, 9, 10 ** 70, -10 ** 5000, 10 ** 5000]:
            self.check([number], 0)
            self.check([8, number], 1)

    def test_more_than_in_the_row_before(self):
        self.check([0, 1], 1)
        self.check([7, 8], 1)
        self.check([5, 5, 3, 4, 2], 3)

    def test_the_first_of_several_wrong_things(self):
        self.check([1, 2, None, 9], 1)
        self.check([1, None, 2, 9], 1)
        self.check([-1, True], 0)

    def test_none_may_be_missing_and_all_may_be(self):
        self.assertIs(is_sorted([0] * 8, [[]] * 8), True)
        self.assertIs(is_sorted([8] * 8, [[]] * 8), True)


class TestWrongRows(Checks):

    def check(self, missing, rows, index):
        self.check_error(InvalidRows, index, missing, rows)

    def test_things_that_are_no_lists(self):
        for thing in no_lists():
            self.check([0], thing, None)

    def test_lists_too_short_and_too_long(self):
        self.check([0], [], None)
        self.check([0], [[1], [2]], None)
        self.check([0, 0], [[1]], None)
        self.check([0, 0], [[1], [2], []], None)
        self.check([0] * 8, [[]] * 9, None)
        self.check([0, 0], [None], None)

    def test_rows_that_are_no_lists(self):
        for thing in no_lists():
            self.check([0], [thing], 0)
            self.check([1, 0], [[2], thing], 1)

    def test_things_that_are_no_whole_numbers(self):
        for thing in no_numbers():
            self.check([0], [[thing]], 0)
            self.check([0, 0], [[1, 2], [3, thing]], 1)
            self.check([0, 0, 0], [[], [], [thing]], 1 + 1)

    def test_rows_that_reach_too_far(self):
        self.check([0], [list(range(9))], 0)
        self.check([8], [[1]], 0)
        self.check([5], [[1, 2, 3, 4]], 0)
        self.check([0, 0], [[1], [2, 3]], 1)
        self.check([2, 1], [[3], [1, 2, 4]], 1)
        self.check([3, 1], [[], [5, 6, 7]], 1)
        self.check([1, 1], [[], [1]], 1)
        self.check([0, 0, 0], [[1], [], [2]], 2)
        self.check([0], [list(range(100000))], 0)

    def test_rows_that_reach_just_so_far(self):
        self.assertIs(is_sorted([0], [list(range(8))]), True)
        self.assertIs(is_sorted([5, 5, 0], [[1, 2, 3], [2, 3, 4], list(range(8))]), True)
        self.assertIs(is_sorted([3, 1], [[], [5, 6]]), True)

    def test_a_row_reaches_as_far_as_its_missing_cells(self):
        self.assertIs(is_sorted([2, 2, 1], [[], [], [1]]), True)
        self.check([2, 2, 1], [[], [], [1, 2]], 2)

    def test_the_first_of_several_wrong_things(self):
        self.check([0, 0, 0], [[1], [2, 3], "x"], 1)
        self.check([0, 0, 0], [[1], "x", [2, 3]], 1)
        self.check([0, 0, 0], [[1, True], [2, 3, 4], None], 0)
        self.check([0, 0], [[1, 2, "x"], [3, 4, 5, 6]], 0)
        self.check([0, 0], [list(range(9)), None], 0)

    def test_rows_are_checked_before_their_order(self):
        self.check([0, 0, 0], [[2, 1], [3], [True]], 2)
        self.check([0, 0], [[2, 1], [3, 4, 5]], 1)
        self.check([0], [[2, 1], [1]], None)

    def test_missing_is_checked_before_rows(self):
        self.check_error(InvalidMissing, None, None, None)
        self.check_error(InvalidMissing, 1, [0, 1], [None, [2, 1]])
        self.check_error(InvalidMissing, 0, [9], [[2, 1]])


class TestLists(unittest.TestCase):

    def test_arguments_stay_as_they_are(self):
        pieces = [(MISSING, ROWS), ([0], [[1]]), ([0] * 8, full_square()), ([0, 0], [[2, 1], [1]]), ([0], [[None]])]
        for missing, rows in pieces:
            before = copy.deepcopy((missing, rows))
            inner = [id(row) for row in rows]
            for function in [is_sorted, word_of]:
                try:
                    function(missing, rows)
                except ValueError:
                    pass
                self.assertEqual((missing, rows), before)
                self.assertEqual([id(row) for row in rows], inner)

    def test_the_word_is_a_new_list(self):
        rows = [[1, 2]]
        word = word_of([0], rows)
        self.assertIs(type(word), list)
        self.assertIsNot(word, rows[0])
        word.append(9)
        self.assertEqual(rows, [[1, 2]])
        self.assertEqual(word_of([0], rows), [1, 2])
        empty = word_of([0], [[]])
        empty.append(9)
        self.assertEqual(word_of([0], [[]]), [])

    def test_rows_may_be_one_list(self):
        row = []
        self.assertEqual(word_of([1, 0], [row, row]), [])

    def test_arguments_by_name(self):
        self.assertIs(is_sorted(rows=[[2], [1, 3]], missing=[1, 0]), True)
        self.assertEqual(word_of(rows=[[2], [1, 3]], missing=[1, 0]), [1, 3, 2])
        self.assertEqual(word_of([1, 0], rows=[[2], [1, 3]]), [1, 3, 2])

    def test_every_call_ends_within_ten_seconds(self):
        great = [[10 ** 59 + number for number in row] for row in full_square()]
        for function in [is_sorted, word_of]:
            start = time.perf_counter()
            function([0] * 8, great)
            self.assertLess(time.perf_counter() - start, 10)


if __name__ == "__main__":
    unittest.main()
