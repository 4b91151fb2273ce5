"""The calls that the document bounds by ten seconds, at their greatest."""

import random
import time
import unittest

from holeslides import insertion, listing, shapes, sinks, slides, turning, words
from holeslides.board import Board
from holeslides.errors import InvalidNumber

FULL = [[10 ** 59 + row + column for column in range(8)] for row in range(8)]
FULL_UNLIKE = [[10 ** 59 + 8 * row + column for column in range(8)] for row in range(8)]


def words_of_40_letters():
    numbers = random.Random(4)
    unlike = list(range(40))
    numbers.shuffle(unlike)
    stairs = [number for first in range(8, -1, -1) for number in range(first, 45, 9)][:40]
    return [
        unlike, [10 ** 59] * 40, list(range(40)), list(range(40, 0, -1)), [numbers.randint(1, 5) for _ in range(40)],
        [20 + (at + 1) // 2 * (-1) ** at for at in range(40)], [at * 7 - at * at // 9 for at in range(40)], stairs,
    ]


def far_alike(word, numbers):
    """An alike word, many exchanges away."""
    for _ in range(400):
        word = numbers.choice(words.exchanges(word) or [word])
    return word


class TestTimes(unittest.TestCase):

    def check(self, function, *arguments):
        start = time.perf_counter()
        answer = function(*arguments)
        self.assertLess(time.perf_counter() - start, 10, function)
        return answer

    def test_words_of_40_letters(self):
        for word in words_of_40_letters():
            self.assertEqual(len(word), 40)
            for function in [words.straight_of, words.exchanges, words.a_pick, insertion.pair_of]:
                self.check(function, word)
            for many in [0, 1, 2, 20, 40, 41, 10 ** 59]:
                self.check(words.longest, word, many)
                self.check(words.longest_falling, word, many)
            self.check(words.are_alike, word, list(word))

    def test_chains_between_words_of_40_letters(self):
        numbers = random.Random(5)
        for word in words_of_40_letters():
            other = far_alike(word, numbers)
            for found in [self.check(words.chain, word, other), self.check(words.chain, other, word)]:
                self.assertEqual({len(one) for one in found}, {40})
            self.check(words.chain, word, sum(words.straight_of(word)[::-1], []))

    def test_chains_between_words_of_the_same_rows_that_grew_otherwise(self):
        rows = [[10 * row + column for column in range(8)] for row in range(5)]
        by_rows = insertion.word_from(rows, [row for row in range(1, 6) for _ in range(8)])
        by_columns = insertion.word_from(rows, [row for _ in range(8) for row in range(1, 6)])
        found = self.check(words.chain, by_rows, by_columns)
        self.assertEqual((found[0], found[-1]), (by_rows, by_columns))

    def test_orders_of_eight_rows_of_eight_missing_cells(self):
        self.check(slides.count_orders, [8] * 8)
        self.check(slides.holes, [8] * 8)
        self.check(slides.straightened, [8] * 8, [[]] * 8)
        order = [row for row in range(8, 0, -1) for _ in range(8)]
        self.assertEqual(self.check(slides.straightened_by, [8] * 8, [[]] * 8, order), ([], order))

    def test_pieces_that_fill_eight_rows_of_eight_cells(self):
        for side in range(9):
            missing = [side] * side + [0] * (8 - side)
            rows = [row[gone:] for row, gone in zip(FULL, missing)]
            self.check(slides.ends, missing, rows)
            self.check(slides.straightened, missing, rows)
            order = [row for row in range(side, 0, -1) for _ in range(side)]
            self.check(slides.straightened_by, missing, rows, order)
            if side > 0:
                self.check(slides.slide, missing, rows, side)
        self.check(slides.slide_back, [0] * 8, FULL[:7] + [FULL[7][:7]], 8)

    def test_straight_rows_that_fill_eight_rows_of_eight_cells(self):
        self.check(insertion.put_in, FULL, 0)
        self.check(insertion.take_out, FULL, 8)
        for order in [[row for row in range(1, 9) for _ in range(8)], list(range(1, 9)) * 8]:
            self.check(insertion.word_from, FULL, order)

    def test_counts_of_eight_rows_of_eight_cells_with_any_missing_ones(self):
        square = [8] * 8
        for missing in [[0] * 8, square, [4] * 4 + [0] * 4, [4] * 8, [7, 6, 5, 4, 3, 2, 1, 0], [8] * 4 + [0] * 4,
                        [1] + [0] * 7, [8] * 7 + [7]]:
            self.check(listing.count_between, square, missing)
        self.assertEqual(self.check(listing.count_between, square, [0] * 8), shapes.count_sorted(square))

    def test_listing_of_eight_rows_of_eight_cells(self):
        square = [8] * 8
        many = shapes.count_sorted(square)
        for number in [0, 1, many // 2, many - 1]:
            rows = self.check(listing.sorted_numbered, square, number)
            self.assertEqual(self.check(listing.sorted_number, rows), number)
        for number in [many, 10 ** 60, 10 ** 5000]:
            with self.assertRaises(InvalidNumber):
                self.check(listing.sorted_numbered, square, number)
        listed = listing.all_sorted(square)
        for _ in range(200):
            self.check(next, listed)

    def test_fillings_of_sixty_four_numbers_of_sixty_digits(self):
        numbers = random.Random(6)
        letters = [10 ** 60 - 1 - letter for letter in range(64)]
        for drawn in [letters, letters[::-1], numbers.sample(letters, 64)]:
            rows = [drawn[8 * row:8 * row + 8] for row in range(8)]
            found = self.check(sinks.sorted_of, rows)
            table = self.check(sinks.table_of, rows)
            self.assertEqual(self.check(sinks.filling_from, found, table), rows)
            for function in [turning.turned, turning.freed, turning.least_out]:
                self.check(function, found)

    def test_tables_of_eight_rows_of_eight_cells(self):
        square = [8] * 8
        many = self.check(sinks.count_fillings, square)
        for number in [0, 1, many // 3, many - 1]:
            table = self.check(sinks.table_numbered, square, number)
            filling = self.check(sinks.filling_from, FULL_UNLIKE, table)
            self.assertEqual(sinks.table_of(filling), table)
        for number in [many, 10 ** 100, 10 ** 100000]:
            with self.assertRaises(InvalidNumber):
                self.check(sinks.table_numbered, square, number)

    def test_boards_with_1000_deeds_that_fill_eight_rows_of_eight_cells(self):
        for side in [1, 4, 8]:
            missing = [side] * side + [0] * (8 - side)
            rows = [row[gone:] for row, gone in zip(FULL, missing)]
            board = self.check(Board, missing, rows)
            self.check(self.do_1000_deeds, board)
            self.assertEqual(len(board), 1000)
            for function in [board.holes, board.ends, board.word, board.straight]:
                self.check(function)
            self.check(self.undo_all, board)
            self.assertEqual((board.missing, board.rows), (missing, rows))

    def do_1000_deeds(self, board):
        numbers = random.Random(7)
        while len(board) < 1000:
            if board.holes() and (not board.ends() or numbers.random() < 0.5):
                board.slide(numbers.choice(board.holes()))
            else:
                board.slide_back(numbers.choice(board.ends()))

    def undo_all(self, board):
        while len(board):
            board.undo()


if __name__ == "__main__":
    unittest.main()
