"""What the document says hangs together (points 16 to 21), over drawn pieces and words, and the means to it."""

import itertools
import random
import unittest

from holeslides.board import Board
from holeslides.insertion import pair_of, word_from
from holeslides.listing import all_sorted, count_between, sorted_number
from holeslides.pieces import is_sorted, word_of
from holeslides.shapes import count_sorted, turned_over
from holeslides.slides import count_orders, ends, slide_back, straightened, straightened_by
from holeslides.turning import freed, least_out, turned
from holeslides.words import are_alike, longest, straight_of
from tests.by_cells import all_orders, any_order, numbered
from tests.things import (
    all_lengths, all_missing, great_pieces, lengths_of, random_straight, random_words, roles_exchanged, small_pieces,
    small_words, straight_that_grows,
)


def laid_into(missing, rows, word):
    """The rows of a piece with the letters of a word in its cells, the last row first."""
    left, laid = list(word), []
    for row in reversed(rows):
        laid.append([left.pop(0) for _ in row])
    return laid[::-1]


def growth_piece(word):
    """The straight piece in which `t` stands in the row that grew with the `t`-th letter."""
    rows, order = pair_of(word)
    return straight_that_grows(order, len(rows), range(1, len(word) + 1))


def rows_with(rows, many):
    """The rows in which 1, 2, 3, and so on to `many` stand."""
    row_of = {number: row for row, numbers in enumerate(rows, 1) for number in numbers}
    return [row_of[number] for number in range(1, many + 1)]


def columns_with(rows, many):
    """The columns in which 1, 2, 3, and so on to `many` stand."""
    column_of = {number: column for numbers in rows for column, number in enumerate(numbers, 1)}
    return [column_of[number] for number in range(1, many + 1)]


def half_turned(rows):
    """Rows half turned, with the roles of the least and the greatest number exchanged, and so on."""
    ascending = sorted(sum(rows, []))
    other = dict(zip(ascending, reversed(ascending)))
    return [[other[number] for number in reversed(row)] for row in reversed(rows)]


def columns_of(rows):
    return [[row[column] for row in rows if len(row) > column] for column in range(len(rows[0]))]


def unlike_words(many, most):
    """Drawn words of unlike letters, whose straight rows are at most 8, of at most 8 cells."""
    numbers = random.Random(many)
    for _ in range(many):
        word = numbers.sample(range(-1000, 1000), numbers.randint(1, most))
        if max(len(straight_of(word)), len(straight_of(word)[0])) <= 8:
            yield word


def fitting_words():
    """Small and drawn words, also with equal letters, whose straight rows are at most 8, of at most 8 cells."""
    for word in itertools.chain(small_words(6, 3), random_words(600, 7, 40, 30), unlike_words(300, 40)):
        if max(len(straight_of(word)), len(straight_of(word)[0])) <= 8:
            yield word


class TestAnotherStraightPiece(unittest.TestCase):

    def check(self, missing, rows, other, orders):
        word = word_of(missing, rows)
        _, grown = pair_of(word)
        laid = laid_into(missing, rows, word_from(other, grown))
        self.assertIs(is_sorted(missing, laid), True, (missing, rows, other))
        self.assertEqual(straightened(missing, laid), other)
        for order in orders:
            straight, shortened = straightened_by(missing, rows, order)
            self.assertEqual(lengths_of(straight), lengths_of(other))
            self.assertEqual(straightened_by(missing, laid, order), (other, shortened))

    def test_in_small_pieces_every_other_one_in_every_order(self):
        for missing, rows in small_pieces(3, 3, 4, 2):
            if any(rows):
                for other in all_sorted(lengths_of(straightened(missing, rows))):
                    self.check(missing, rows, other, all_orders(missing))

    def test_in_great_pieces_drawn_ones_in_drawn_orders(self):
        numbers = random.Random(25)
        for missing, rows in great_pieces(400):
            if 1 <= len(sum(rows, [])) <= 40:
                shape = lengths_of(straightened(missing, rows))
                orders = [any_order(missing, numbers) for _ in range(2)]
                self.check(missing, rows, random_straight(shape, numbers), orders)
                self.check(missing, rows, straightened(missing, rows), orders[:1])

    def test_the_piece_itself_comes_with_its_own_straight_piece(self):
        for missing, rows in great_pieces(200):
            if 1 <= len(sum(rows, [])) <= 40:
                straight, grown = pair_of(word_of(missing, rows))
                self.assertEqual(straight, straightened(missing, rows))
                self.assertEqual(laid_into(missing, rows, word_from(straight, grown)), rows)

    def test_equally_many_fillings_straighten_to_each_one_of_a_shape(self):
        for missing in all_missing(3, 3):
            for lengths in all_lengths(missing, 4):
                many = sum(lengths)
                if not 2 <= many <= 6 or not sum(missing):
                    continue
                counts = {}
                fillings = self.fillings(missing, lengths)
                shape = [gone + length for gone, length in zip(missing, lengths)]
                if shape[-1] > 0:
                    self.assertEqual(count_between(shape, missing), len(fillings))
                for rows in fillings:
                    found = straightened(missing, rows)
                    counts.setdefault(tuple(lengths_of(found)), {}).setdefault(sorted_number(found), []).append(rows)
                for straight, listed in counts.items():
                    self.assertEqual(len(listed), count_sorted(list(straight)))
                    self.assertEqual(len({len(rows) for rows in listed.values()}), 1, (missing, lengths))

    def fillings(self, missing, lengths):
        """The sorted fillings, by the numbers from 1 on, of a shape with missing cells."""
        found = []
        places = [row for row, length in enumerate(lengths) for _ in range(length)]
        for order in set(itertools.permutations(places)):
            rows = straight_that_grows([row + 1 for row in order], len(lengths), range(1, len(order) + 1))
            if is_sorted(missing, rows):
                found.append(rows)
        return found


class TestTheFirstLetterTakenOff(unittest.TestCase):

    def test_the_least_number_of_the_growth_is_taken_out(self):
        for word in fitting_words():
            if len(word) >= 2:
                after = least_out(growth_piece(word))[0]
                smaller = [[number - 1 for number in row] for row in after]
                self.assertEqual(pair_of(word[1:])[1], rows_with(smaller, len(word) - 1), word)

    def test_the_straight_rows_get_shorter_as_the_growth_does(self):
        for word in fitting_words():
            shortened = []
            for at in range(len(word)):
                before = lengths_of(straight_of(word[at:]))
                after = lengths_of(straight_of(word[at + 1:])) if at + 1 < len(word) else []
                after += [0] * (len(before) - len(after))
                shortened += [row for row in range(1, len(before) + 1) if before[row - 1] > after[row - 1]]
            self.assertEqual(freed(growth_piece(word)), shortened, word)

    def test_the_first_one_of_the_least_letters_is_the_least_number(self):
        for word in fitting_words():
            rest = list(word)
            rest.remove(min(word))
            expected = least_out(straight_of(word))[0]
            self.assertEqual(straight_of(rest) if rest else [], expected)


class TestCutWords(unittest.TestCase):

    def test_alike_words_have_equally_great_picks_of_their_lesser_letters(self):
        words = [list(word) for word in itertools.product(range(1, 4), repeat=5)]
        told = {}
        for word in words:
            lesser = [[letter for letter in word if letter <= most] for most in range(1, 4)]
            picks = [[longest(rest, many) if rest else 0 for many in range(6)] for rest in lesser]
            told.setdefault(str(picks), []).append(word)
        for found in told.values():
            self.assertTrue(all(are_alike(found[0], word) for word in found))
        self.assertEqual(len(told), len({str(straight_of(word)) for word in words}))

    def test_cut_pieces_straighten_to_the_same(self):
        for missing, rows in great_pieces(150):
            ascending = sorted(sum(rows, []))
            if not ascending:
                continue
            straight = straightened(missing, rows)
            low, high = ascending[len(ascending) // 4], ascending[3 * len(ascending) // 4]
            found = []
            for gone, one in [(missing, rows), ([0] * len(straight), straight)]:
                cut = [many + sum(number < low for number in row) for many, row in zip(gone, one)]
                found.append(straightened(cut, [[x for x in row if low <= x <= high] for row in one]))
            self.assertEqual(found[0], found[1])


class TestOutToTheRim(unittest.TestCase):

    def rim_of(self, missing, rows, choose):
        """The piece that fills the lower right of the square."""
        while ends(missing, rows):
            missing, rows, _ = slide_back(missing, rows, choose(ends(missing, rows)))
        self.assertEqual([gone + len(row) for gone, row in zip(missing, rows)], [8] * 8)
        return rows

    def check(self, missing, rows, chooses):
        rows = numbered(missing, rows)[0]
        straight = straightened(missing, rows)
        for choose in chooses:
            found = half_turned(self.rim_of(missing, rows, choose))
            self.assertEqual([row for row in found if row], turned(straight) if straight else [])

    def test_half_turned_it_is_the_straightened_piece_turned_about(self):
        for missing, rows in great_pieces(80):
            self.check(missing, rows, [min, max, random.Random(19).choice])

    def test_pieces_of_no_number_of_one_and_of_all(self):
        square = [list(range(row, row + 8)) for row in range(8)]
        for missing, rows in [([0], [[]]), ([0], [[5]]), ([7] * 8, [[row] for row in range(8)]), ([8] * 8, [[]] * 8),
                              ([0] * 8, square), ([8] * 7 + [0], [[]] * 7 + [list(range(8))])]:
            self.check(missing, rows, [min, max])

    def test_a_board_comes_to_the_rim_and_back(self):
        for missing, rows in great_pieces(30):
            board = Board(missing, rows)
            while board.ends():
                board.slide_back(board.ends()[-1])
            self.assertEqual(board.rows, self.rim_of(missing, rows, min))
            while len(board):
                board.undo()
            self.assertEqual((board.missing, board.rows), (missing, rows))


class TestBackwards(unittest.TestCase):

    def words(self):
        return [list(word) for word in itertools.permutations(range(1, 7))] + list(unlike_words(500, 40))

    def test_the_columns_are_the_straight_rows_of_the_word_read_backwards(self):
        for word in self.words():
            self.assertEqual(straight_of(word[::-1]), columns_of(straight_of(word)))
            lengths = lengths_of(straight_of(word))
            self.assertEqual(lengths_of(straight_of(word[::-1])), turned_over(lengths))

    def test_the_growth_turned_about_tells_how_the_columns_grow(self):
        for word in self.words():
            expected = columns_with(turned(growth_piece(word)), len(word))
            self.assertEqual(pair_of(word[::-1])[1], expected, word)

    def test_with_roles_exchanged_it_is_the_straight_piece_turned_about(self):
        for word in self.words():
            self.assertEqual(straight_of(roles_exchanged(word)[::-1]), turned(straight_of(word)))

    def rectangles(self):
        numbers = random.Random(26)
        for many, length in itertools.product(range(1, 9), repeat=2):
            for _ in range(4):
                yield random_straight([length] * many, numbers, unlike=True)

    def test_rows_that_are_equally_long_are_just_half_turned(self):
        for rows in self.rectangles():
            self.assertEqual(turned(rows), half_turned(rows))
        for shape in [[2, 2], [3, 3], [2, 2, 2], [4, 4], [3, 3, 3]]:
            for rows in all_sorted(shape):
                self.assertEqual(turned(rows), half_turned(rows))

    def test_each_number_is_greater_by_n_when_n_are_taken_out_and_put_where_cells_got_free(self):
        for rows in self.rectangles():
            ascending = sorted(sum(rows, []))
            many = len(ascending)
            first = [[ascending.index(number) + 1 for number in row] for row in rows]
            now = first
            for number in range(many + 1, 2 * many + 1):
                lengths = lengths_of(now)
                after, row = least_out(now)
                now = after + [[]] if len(after) < len(lengths) else after
                now[row - 1].append(number)
                self.assertEqual(lengths_of(now), lengths)
            self.assertEqual(now, [[number + many for number in row] for row in first])


class TestOrdersAndFillings(unittest.TestCase):

    def test_there_are_as_many_orders_as_sorted_fillings_of_the_missing_cells(self):
        for missing in all_missing(4, 4):
            shape = [gone for gone in missing if gone > 0]
            if not shape:
                self.assertEqual(count_orders(missing), 1)
            else:
                self.assertEqual(count_orders(missing), count_between(shape, [0] * len(shape)))
                if sum(shape) <= 8:
                    self.assertEqual(count_orders(missing), len(list(all_sorted(shape))))


if __name__ == "__main__":
    unittest.main()
