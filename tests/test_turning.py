import itertools
import random
import unittest

from holeslides.errors import NotSorted
from holeslides.insertion import pair_of
from holeslides.turning import freed, least_out, turned
from holeslides.words import straight_of
from tests.by_cells import number_back, numbered, rows_of, slide_by_cells
from tests.things import (
    all_shapes, cells_of, great_straight, lengths_of, roles_exchanged, small_straight, unlike_straight, unsorted_rows,
)

EDGES = [[[7]], [list(range(8))], [[row] for row in range(8)], [list(range(8 * row, 8 * row + 8)) for row in range(8)]]


def least_out_by_cells(rows):
    """What `least_out` has to return: its least number is struck out, the hole is filled cell by cell."""
    missing = [1] + [0] * (len(rows) - 1)
    _, after, row = slide_by_cells(missing, [rows[0][1:]] + rows[1:], 1)
    return [numbers for numbers in after if numbers], row


def freed_by_cells(rows):
    order = []
    while rows:
        rows, row = least_out_by_cells(rows)
        order.append(row)
    return order


def turned_by_cells(rows):
    """What `turned` has to return: the cells in the order in which they get free, the numbers backwards."""
    left, cells = sorted(sum(rows, [])), {}
    many = len(rows)
    while rows:
        lengths = lengths_of(rows)
        rows, row = least_out_by_cells(rows)
        cells[row, lengths[row - 1]] = left.pop()
    return rows_of(cells, many)


class TestExamples(unittest.TestCase):

    def test_the_examples_of_the_document(self):
        rows = [[1, 2, 4], [3, 5]]
        self.assertEqual(least_out(rows), ([[2, 4], [3, 5]], 1))
        self.assertEqual(freed(rows), [1, 2, 1, 2, 1])
        self.assertEqual(turned(rows), [[1, 3, 5], [2, 4]])


class TestLeastOut(unittest.TestCase):

    def test_edges(self):
        self.assertEqual(least_out([[7]]), ([], 1))
        self.assertEqual(least_out([[7, 7]]), ([[7]], 1))
        self.assertEqual(least_out([[1, 2, 3]]), ([[2, 3]], 1))
        self.assertEqual(least_out([[1], [2], [3]]), ([[2], [3]], 3))
        self.assertEqual(least_out([[1, 2], [3, 4]]), ([[2, 4], [3]], 2))
        self.assertEqual(least_out([[1, 3], [2]]), ([[2, 3]], 2))

    def test_the_lower_one_of_equal_numbers_goes_into_the_hole(self):
        self.assertEqual(least_out([[1, 2], [2]]), ([[2, 2]], 2))
        self.assertEqual(least_out([[1, 2, 2], [2, 3], [3]]), ([[2, 2, 2], [3, 3]], 3))

    def test_of_equal_least_numbers_the_first_one_is_taken_out(self):
        self.assertEqual(least_out([[1, 1, 1], [2, 2]]), ([[1, 1], [2, 2]], 1))
        self.assertEqual(least_out([[1, 1, 3], [2, 2]]), ([[1, 2, 3], [2]], 2))
        self.assertEqual(least_out([[1, 1, 2], [3]]), ([[1, 2], [3]], 1))

    def test_numbers_of_any_size(self):
        great = 10 ** 59
        self.assertEqual(least_out([[-great, great], [great]]), ([[great, great]], 2))
        self.assertEqual(least_out([[-great, great - 1], [great]]), ([[great - 1], [great]], 1))

    def test_eight_rows_of_eight_cells(self):
        # The hole goes along the first row, then down the last column.
        expected = [list(range(1, 8)) + [15]]
        expected += [list(range(8 * at, 8 * at + 7)) + [8 * at + 15] for at in range(1, 7)]
        self.assertEqual(least_out(EDGES[3]), (expected + [list(range(56, 63))], 8))

    def test_all_small_pieces_and_great_ones(self):
        for rows in list(small_straight(6, 3)) + great_straight(300):
            found = least_out(rows)
            self.assertIs(type(found), tuple)
            self.assertEqual(found, least_out_by_cells(rows), rows)
            self.assertEqual(sorted(sum(found[0], [])), sorted(sum(rows, []))[1:])
            self.assertEqual(unsorted_rows([0] * len(found[0]), found[0]), [])

    def test_the_straight_rows_of_a_word_without_the_first_of_its_least_letters(self):
        for letters in itertools.product(range(1, 4), repeat=6):
            word = list(letters)
            expected = least_out(straight_of(word))[0]
            word.remove(min(word))
            self.assertEqual(straight_of(word), expected)


class TestFreed(unittest.TestCase):

    def test_edges(self):
        self.assertEqual(freed([[7]]), [1])
        self.assertEqual(freed([[7, 7, 7]]), [1, 1, 1])
        self.assertEqual(freed([[1], [2], [3]]), [3, 2, 1])
        self.assertEqual(freed([[1, 2], [3, 4]]), [2, 2, 1, 1])
        self.assertEqual(freed([[1, 3], [2, 4]]), [2, 1, 2, 1])
        self.assertEqual(freed(EDGES[3]), [row for row in range(8, 0, -1) for _ in range(8)])

    def test_each_row_gets_shorter_until_nothing_is_left(self):
        for rows in list(small_straight(6, 3)) + great_straight(300):
            order = freed(rows)
            self.assertEqual(order, freed_by_cells(rows), rows)
            self.assertEqual([order.count(row) for row in range(1, len(rows) + 1)], lengths_of(rows))

    def test_equal_numbers_are_as_unlike_ones(self):
        for rows in list(small_straight(6, 3)) + great_straight(200):
            ranks, numbers = numbered([0] * len(rows), rows)
            self.assertEqual(freed(rows), freed(ranks))
            after, row = least_out(ranks)
            self.assertEqual(least_out(rows), (number_back(after, numbers), row))


class TestTurned(unittest.TestCase):

    def test_edges(self):
        self.assertEqual(turned([[7]]), [[7]])
        self.assertEqual(turned([[1, 2, 3]]), [[1, 2, 3]])
        self.assertEqual(turned([[1], [2], [3]]), [[1], [2], [3]])
        self.assertEqual(turned([[1, 2], [3]]), [[1, 3], [2]])
        self.assertEqual(turned([[1, 3], [2]]), [[1, 2], [3]])
        for rows in EDGES:
            self.assertEqual(turned(rows), rows)

    def test_numbers_far_apart(self):
        self.assertEqual(turned([[-5, 10 ** 59], [0]]), [[-5, 0], [10 ** 59]])

    def test_the_least_number_stands_where_a_cell_got_free_last(self):
        for rows in unlike_straight(7) + great_straight(300, unlike=True):
            self.assertEqual(turned(rows), turned_by_cells(rows), rows)

    def test_a_straight_piece_of_the_same_shape_and_numbers_comes(self):
        for rows in unlike_straight(7) + great_straight(300, unlike=True):
            found = turned(rows)
            self.assertEqual(lengths_of(found), lengths_of(rows))
            self.assertEqual(unsorted_rows([0] * len(found), found), [])
            self.assertEqual(sorted(sum(found, [])), sorted(sum(rows, [])))

    def test_turned_about_twice_it_is_the_piece_itself(self):
        for rows in unlike_straight(7) + great_straight(300, unlike=True):
            self.assertEqual(turned(turned(rows)), rows)

    def test_only_which_number_is_lesser_counts(self):
        for rows in great_straight(100, unlike=True):
            order = sorted(sum(rows, []))
            ranks = [[order.index(number) for number in row] for row in rows]
            self.assertEqual(turned(rows), number_back(turned(ranks), order))

    def test_words_read_backwards_with_roles_exchanged(self):
        for letters in itertools.permutations(range(1, 7)):
            word = list(letters)
            self.assertEqual(straight_of(roles_exchanged(word)[::-1]), turned(straight_of(word)))

    def test_long_words_read_backwards_with_roles_exchanged(self):
        numbers = random.Random(13)
        tried = 0
        for _ in range(400):
            word = numbers.sample(range(-10 ** 9, 10 ** 9), numbers.randint(7, 40))
            rows = pair_of(word)[0]
            if len(rows) <= 8 and len(rows[0]) <= 8:
                tried += 1
                self.assertEqual(straight_of(roles_exchanged(word)[::-1]), turned(rows))
        self.assertGreater(tried, 100)

    def test_equal_numbers_are_refused_with_the_first_row_that_repeats_one(self):
        for rows in small_straight(5, 3):
            seen, expected = set(), None
            for (row, _), number in sorted(cells_of([0] * len(rows), rows).items()):
                if number in seen and expected is None:
                    expected = row
                seen.add(number)
            if expected is None:
                turned(rows)
            else:
                with self.assertRaises(NotSorted) as caught:
                    turned(rows)
                self.assertEqual(caught.exception.row, expected, rows)

    def test_shapes_of_all_sizes(self):
        for at, shape in enumerate(all_shapes(8, 8)):
            if at % 40 == 0:
                rows, last = [], 0
                for length in shape:
                    rows.append(list(range(last, last + length)))
                    last += length
                self.assertEqual(turned(rows), turned_by_cells(rows))


if __name__ == "__main__":
    unittest.main()
