import itertools
import random
import unittest

from holeslides.insertion import pair_of, put_in, take_out, word_from
from holeslides.shapes import corners, count_sorted
from tests.things import (
    all_growths, all_shapes, lengths_of, put_by_words, random_growth, small_straight, small_words, straight_by_words,
)


def full_square():
    return [list(range(row, row + 8)) for row in range(8)]


class TestExamples(unittest.TestCase):

    def test_the_examples_of_the_document(self):
        self.assertEqual(put_in([[1, 3], [4]], 2), ([[1, 2], [3], [4]], 3))
        self.assertEqual(take_out([[1, 2], [3], [4]], 3), ([[1, 3], [4]], 2))
        self.assertEqual(pair_of([2, 3, 1]), ([[1, 3], [2]], [1, 1, 2]))
        self.assertEqual(word_from([[1, 3], [2]], [1, 1, 2]), [2, 3, 1])


class TestPutIn(unittest.TestCase):

    def test_a_number_that_none_is_greater_than_is_put_at_the_end(self):
        self.assertEqual(put_in([[1]], 2), ([[1, 2]], 1))
        self.assertEqual(put_in([[1]], 1), ([[1, 1]], 1))
        self.assertEqual(put_in([[1, 3], [4]], 3), ([[1, 3, 3], [4]], 1))

    def test_it_takes_the_place_of_the_first_greater_number(self):
        self.assertEqual(put_in([[1]], 0), ([[0], [1]], 2))
        self.assertEqual(put_in([[1, 3, 3, 4], [5]], 1), ([[1, 1, 3, 4], [3], [5]], 3))
        self.assertEqual(put_in([[1, 3, 3, 4], [4]], 3), ([[1, 3, 3, 3], [4, 4]], 2))
        self.assertEqual(put_in([[1, 2], [2, 3]], 1), ([[1, 1], [2, 2], [3]], 3))

    def test_numbers_of_any_size(self):
        great = 10 ** 59
        self.assertEqual(put_in([[-great, great]], great - 1), ([[-great, great - 1], [great]], 2))

    def test_small_pieces_number_by_number(self):
        for rows in small_straight(5, 3):
            for number in range(0, 5):
                found = put_in(rows, number)
                self.assertIs(type(found), tuple)
                self.assertEqual(found, put_by_words(rows, number))

    def test_a_full_row_or_column_gets_longer(self):
        self.assertEqual(put_in([list(range(8))], 9), ([list(range(8)) + [9]], 1))
        rows, row = put_in([[number] for number in range(8)], -1)
        self.assertEqual((rows, row), ([[number] for number in range(-1, 8)], 9))


class TestTakeOut(unittest.TestCase):

    def test_edges(self):
        self.assertEqual(take_out([[5]], 1), ([], 5))
        self.assertEqual(take_out([[5, 5]], 1), ([[5]], 5))
        self.assertEqual(take_out([[4], [5]], 2), ([[5]], 4))

    def test_it_takes_the_place_of_the_last_lesser_number(self):
        self.assertEqual(take_out([[1, 2, 2, 3], [3]], 2), ([[1, 2, 3, 3]], 2))
        self.assertEqual(take_out([[1, 2], [3, 3]], 2), ([[1, 3], [3]], 2))
        self.assertEqual(take_out([[1, 2, 4], [3, 4]], 2), ([[1, 4, 4], [3]], 2))

    def test_rows_that_are_not_empty_stay(self):
        self.assertEqual(take_out([[1, 2], [3]], 1), ([[1], [3]], 2))
        self.assertEqual(take_out([[1], [2], [3]], 3), ([[2], [3]], 1))

    def test_it_leads_back_from_putting_in(self):
        for rows in small_straight(5, 3):
            for number in range(0, 5):
                after, row = put_in(rows, number)
                self.assertEqual(take_out(after, row), (rows, number))

    def test_putting_in_leads_back_from_it(self):
        for rows in small_straight(6, 3):
            for row in corners(lengths_of(rows)):
                found = take_out(rows, row)
                self.assertIs(type(found), tuple)
                self.assertEqual(put_by_words(*found), (rows, row))

    def test_a_full_square(self):
        rows, number = take_out(full_square(), 8)
        self.assertEqual(lengths_of(rows), [8] * 7 + [7])
        self.assertEqual(put_in(rows, number), (full_square(), 8))


class TestPairs(unittest.TestCase):

    def test_edges(self):
        self.assertEqual(pair_of([7]), ([[7]], [1]))
        self.assertEqual(pair_of([7, 7]), ([[7, 7]], [1, 1]))
        self.assertEqual(pair_of([7, 6]), ([[6], [7]], [1, 2]))
        self.assertEqual(pair_of([3] * 40), ([[3] * 40], [1] * 40))
        falling = list(range(40, 0, -1))
        self.assertEqual(pair_of(falling), ([[letter] for letter in range(1, 41)], list(range(1, 41))))
        self.assertEqual(word_from([[7]], [1]), [7])
        self.assertEqual(word_from([[7, 7]], [1, 1]), [7, 7])
        self.assertEqual(word_from([[6], [7]], [1, 2]), [7, 6])

    def test_each_word_comes_back(self):
        for word in small_words(6, 3):
            found = pair_of(word)
            self.assertIs(type(found), tuple)
            self.assertEqual(found, straight_by_words(word))
            self.assertEqual(word_from(*found), word)

    def test_each_pair_comes_back(self):
        for rows in small_straight(5, 3):
            for order in all_growths(lengths_of(rows)):
                self.assertEqual(pair_of(word_from(rows, order)), (rows, order))

    def test_words_and_pairs_are_one_to_one(self):
        words = [list(word) for word in itertools.permutations(range(1, 7))]
        pairs = {str(pair_of(word)) for word in words}
        self.assertEqual(len(pairs), 720)
        many = [count_sorted(shape) ** 2 for shape in all_shapes(6, 6) if sum(shape) == 6]
        self.assertEqual(sum(many), 720)

    def test_long_words(self):
        numbers = random.Random(12)
        for _ in range(200):
            word = [numbers.randint(1, 30) for _ in range(numbers.randint(1, 40))]
            rows, order = pair_of(word)
            self.assertEqual((rows, order), straight_by_words(word))
            if len(rows) <= 8 and len(rows[0]) <= 8:
                self.assertEqual(word_from(rows, order), word)

    def test_words_of_up_to_64_numbers_are_told_back(self):
        numbers = random.Random(64)
        for shape in [[8] * 8, [8] * 5 + [1], [8, 7, 6, 5, 5, 5, 5, 4]]:
            rows = [[2 * row + column // 2 for column in range(length)] for row, length in enumerate(shape)]
            for _ in range(5):
                order = random_growth(shape, numbers)
                word = word_from(rows, order)
                self.assertIs(type(word), list)
                self.assertEqual(len(word), sum(shape))
                self.assertEqual(straight_by_words(word), (rows, order))

    def test_another_order_tells_another_word(self):
        self.assertEqual(word_from([[1, 3], [2]], [1, 2, 1]), [2, 1, 3])
        self.assertEqual(word_from([[1, 1], [2, 2]], [1, 2, 1, 2]), [2, 1, 2, 1])
        self.assertEqual(word_from([[1, 1], [2, 2]], [1, 1, 2, 2]), [2, 2, 1, 1])


if __name__ == "__main__":
    unittest.main()
