"""The calls that the document bounds by ten seconds, at their greatest."""

import random
import time
import unittest

from holeslides import insertion, slides, words

FULL = [[10 ** 59 + row + column for column in range(8)] for row in range(8)]


def words_of_40_letters():
    numbers = random.Random(4)
    unlike = list(range(40))
    numbers.shuffle(unlike)
    stairs = [number for first in range(8, -1, -1) for number in range(first, 45, 9)][:40]
    return [
        unlike, [10 ** 59] * 40, list(range(40)), list(range(40, 0, -1)), [numbers.randint(1, 5) for _ in range(40)],
        [20 + (at + 1) // 2 * (-1) ** at for at in range(40)], [at * 7 - at * at // 9 for at in range(40)], stairs,
    ]


def far_alike(word, numbers):
    """An alike word, many exchanges away."""
    for _ in range(400):
        word = numbers.choice(words.exchanges(word) or [word])
    return word


class TestTimes(unittest.TestCase):

    def check(self, function, *arguments):
        start = time.perf_counter()
        answer = function(*arguments)
        self.assertLess(time.perf_counter() - start, 10, function)
        return answer

    def test_words_of_40_letters(self):
        for word in words_of_40_letters():
            self.assertEqual(len(word), 40)
            for function in [words.straight_of, words.exchanges, words.a_pick, insertion.pair_of]:
                self.check(function, word)
            for many in [0, 1, 2, 20, 40, 41, 10 ** 59]:
                self.check(words.longest, word, many)
                self.check(words.longest_falling, word, many)
            self.check(words.are_alike, word, list(word))

    def test_chains_between_words_of_40_letters(self):
        numbers = random.Random(5)
        for word in words_of_40_letters():
            other = far_alike(word, numbers)
            for found in [self.check(words.chain, word, other), self.check(words.chain, other, word)]:
                self.assertEqual({len(one) for one in found}, {40})
            self.check(words.chain, word, sum(words.straight_of(word)[::-1], []))

    def test_chains_between_words_of_the_same_rows_that_grew_otherwise(self):
        rows = [[10 * row + column for column in range(8)] for row in range(5)]
        by_rows = insertion.word_from(rows, [row for row in range(1, 6) for _ in range(8)])
        by_columns = insertion.word_from(rows, [row for _ in range(8) for row in range(1, 6)])
        found = self.check(words.chain, by_rows, by_columns)
        self.assertEqual((found[0], found[-1]), (by_rows, by_columns))

    def test_orders_of_eight_rows_of_eight_missing_cells(self):
        self.check(slides.count_orders, [8] * 8)
        self.check(slides.holes, [8] * 8)
        self.check(slides.straightened, [8] * 8, [[]] * 8)
        order = [row for row in range(8, 0, -1) for _ in range(8)]
        self.assertEqual(self.check(slides.straightened_by, [8] * 8, [[]] * 8, order), ([], order))

    def test_pieces_that_fill_eight_rows_of_eight_cells(self):
        for side in range(9):
            missing = [side] * side + [0] * (8 - side)
            rows = [row[gone:] for row, gone in zip(FULL, missing)]
            self.check(slides.ends, missing, rows)
            self.check(slides.straightened, missing, rows)
            order = [row for row in range(side, 0, -1) for _ in range(side)]
            self.check(slides.straightened_by, missing, rows, order)
            if side > 0:
                self.check(slides.slide, missing, rows, side)
        self.check(slides.slide_back, [0] * 8, FULL[:7] + [FULL[7][:7]], 8)

    def test_straight_rows_that_fill_eight_rows_of_eight_cells(self):
        self.check(insertion.put_in, FULL, 0)
        self.check(insertion.take_out, FULL, 8)
        for order in [[row for row in range(1, 9) for _ in range(8)], list(range(1, 9)) * 8]:
            self.check(insertion.word_from, FULL, order)


if __name__ == "__main__":
    unittest.main()
