import itertools
import random
import unittest

from holeslides.shapes import count_sorted, hooks, turned_over
from holeslides.sinks import count_fillings, filling_from, sorted_of, table_numbered, table_of
from tests.by_cells import rows_of
from tests.things import (
    all_shapes, cells_of, great_straight, lengths_of, random_shape, unlike_straight, unsorted_rows,
)


def small_shapes(most_numbers):
    return [shape for shape in all_shapes(8, 8) if sum(shape) <= most_numbers]


def all_fillings(shape):
    """All fillings of a shape by the numbers from 1 on."""
    for numbers in itertools.permutations(range(1, sum(shape) + 1)):
        yield rows_with(shape, numbers)


def rows_with(shape, numbers):
    left = list(numbers)
    return [[left.pop(0) for _ in range(length)] for length in shape]


def random_fillings(many):
    """Fillings of up to 64 unlike numbers; the first ones have eight rows of eight cells."""
    numbers = random.Random(many)
    for at in range(many):
        shape = [8] * 8 if at < 5 else random_shape(numbers)
        letters = set()
        while len(letters) < sum(shape):
            letters.add(numbers.randint(-10 ** 59, 10 ** 60 - 1))
        letters = sorted(letters)
        numbers.shuffle(letters)
        yield rows_with(shape, letters)


def sunk_by_cells(rows):
    """The sorted filling and the table of a filling, as the document tells them, cell by cell."""
    cells = cells_of([0] * len(rows), rows)
    table = {place: 0 for place in cells}
    for i, j in sorted(cells, key=lambda place: (-place[1], -place[0])):
        k, l = i, j
        while True:
            near = [place for place in [(k, l + 1), (k + 1, l)] if place in cells and cells[place] < cells[k, l]]
            if not near:
                break
            other = min(near, key=lambda place: cells[place])
            cells[k, l], cells[other] = cells[other], cells[k, l]
            k, l = other
        before = dict(table)
        for row in range(i, k):
            table[row, j] = before[row + 1, j] - 1
        table[k, j] = l - j
    return rows_of(cells, len(rows)), rows_of(table, len(rows))


def bounds_of(shape):
    """Of each cell of a shape the least and the greatest number of a table, row by row."""
    columns = turned_over(shape)
    return [
        [(row + 1 - columns[column], length - column - 1) for column in range(length)]
        for row, length in enumerate(shape)
    ]


def all_tables(shape):
    """All tables of a shape, by their numbers."""
    spans = [range(low, high + 1) for row in bounds_of(shape) for low, high in row]
    for numbers in itertools.product(*spans):
        yield rows_with(shape, numbers)


def as_key(rows):
    return tuple(tuple(row) for row in rows)


class TestExamples(unittest.TestCase):

    def test_the_examples_of_the_document(self):
        self.assertEqual(sorted_of([[3, 1], [2]]), [[1, 3], [2]])
        self.assertEqual(table_of([[3, 1], [2]]), [[1, 0], [0]])
        self.assertEqual(filling_from([[1, 3], [2]], [[1, 0], [0]]), [[3, 1], [2]])
        self.assertEqual(count_fillings([2, 1]), 3)
        self.assertEqual(table_numbered([2, 1], 0), [[-1, 0], [0]])
        self.assertEqual(table_numbered([2, 1], 2), [[1, 0], [0]])
        self.assertEqual(table_numbered([2, 2], 4), [[0, -1], [0, 0]])
        self.assertEqual(filling_from([[1, 3], [2, 4]], [[0, 0], [1, 0]]), [[4, 1], [3, 2]])


class TestSinking(unittest.TestCase):

    def test_one_cell(self):
        self.assertEqual(sorted_of([[7]]), [[7]])
        self.assertEqual(table_of([[7]]), [[0]])

    def test_one_row_and_one_column(self):
        self.assertEqual(sorted_of([[3, 1, 2]]), [[1, 2, 3]])
        self.assertEqual(table_of([[3, 1, 2]]), [[2, 0, 0]])
        self.assertEqual(table_of([[2, 3, 1]]), [[1, 1, 0]])
        self.assertEqual(sorted_of([[3], [1], [2]]), [[1], [2], [3]])
        self.assertEqual(table_of([[3], [1], [2]]), [[-1], [-1], [0]])
        self.assertEqual(table_of([[3], [2], [1]]), [[-2], [-1], [0]])
        self.assertEqual(table_of([[2], [3], [1]]), [[-2], [0], [0]])

    def test_the_lesser_neighbour_goes_up(self):
        self.assertEqual(sorted_of([[4, 2], [3, 1]]), [[1, 3], [2, 4]])
        self.assertEqual(sorted_of([[4, 3], [1, 2]]), [[1, 2], [3, 4]])
        self.assertEqual(sorted_of([[9, 1, 7], [2, 8]]), [[1, 7, 9], [2, 8]])
        self.assertEqual(sorted_of([[9, 1, 8], [2, 7]]), [[1, 7, 8], [2, 9]])

    def test_sorted_fillings_stay_and_have_tables_of_0(self):
        for rows in unlike_straight(7) + great_straight(100, unlike=True):
            self.assertEqual(sorted_of(rows), rows)
            self.assertEqual(table_of(rows), [[0] * len(row) for row in rows])
            self.assertEqual(filling_from(rows, table_of(rows)), rows)

    def test_fillings_that_are_sorted_the_other_way_round(self):
        for shape in small_shapes(9) + [[8] * 8, [8, 7, 6, 5, 4, 3, 2, 1], [8], [1] * 8]:
            for rows in [rows_with(shape, range(sum(shape), 0, -1)), rows_with(shape, range(0, -sum(shape), -1))]:
                found = sorted_of(rows), table_of(rows)
                self.assertEqual(found, sunk_by_cells(rows))
                self.assertEqual(filling_from(*found), rows)
        self.assertEqual(table_of([[3, 2, 1]]), [[2, 1, 0]])

    def test_all_small_fillings(self):
        for shape in small_shapes(6):
            for rows in all_fillings(shape):
                expected, table = sunk_by_cells(rows)
                self.assertEqual(sorted_of(rows), expected, rows)
                self.assertEqual(table_of(rows), table, rows)

    def test_many_great_fillings(self):
        for rows in random_fillings(300):
            found, table = sorted_of(rows), table_of(rows)
            self.assertEqual((found, table), sunk_by_cells(rows), rows)
            self.assertEqual(unsorted_rows([0] * len(rows), found), [])
            self.assertEqual(sorted(sum(found, [])), sorted(sum(rows, [])))
            for numbers, limits in zip(table, bounds_of(lengths_of(rows))):
                self.assertTrue(all(low <= number <= high for number, (low, high) in zip(numbers, limits)))


class TestBackAgain(unittest.TestCase):

    def test_edges(self):
        self.assertEqual(filling_from([[7]], [[0]]), [[7]])
        self.assertEqual(filling_from([[1, 2, 3]], [[2, 0, 0]]), [[3, 1, 2]])
        self.assertEqual(filling_from([[1], [2], [3]], [[-1], [-1], [0]]), [[3], [1], [2]])
        self.assertEqual(filling_from([[1], [2], [3]], [[-2], [0], [0]]), [[2], [3], [1]])
        self.assertEqual(filling_from([[1, 3], [2]], [[-1, 0], [0]]), [[2, 3], [1]])

    def test_each_small_filling_comes_back(self):
        for shape in small_shapes(6):
            for rows in all_fillings(shape):
                self.assertEqual(filling_from(sorted_of(rows), table_of(rows)), rows)

    def test_each_great_filling_comes_back(self):
        for rows in random_fillings(300):
            self.assertEqual(filling_from(sorted_of(rows), table_of(rows)), rows)

    def test_each_sorted_filling_and_table_come_back(self):
        for shape in small_shapes(5):
            for rows in unlike_straight(5):
                if lengths_of(rows) == shape:
                    for table in all_tables(shape):
                        filling = filling_from(rows, table)
                        self.assertEqual((sorted_of(filling), table_of(filling)), (rows, table))

    def test_great_tables_at_the_ends_of_their_bounds_and_drawn_ones(self):
        numbers = random.Random(15)
        for rows in great_straight(100, unlike=True):
            limits = bounds_of(lengths_of(rows))
            tables = [[[pair[end] for pair in row] for row in limits] for end in [0, 1]]
            tables += [[[numbers.choice(pair) for pair in row] for row in limits] for _ in range(2)]
            tables += [[[numbers.randint(*pair) for pair in row] for row in limits] for _ in range(2)]
            for table in tables:
                filling = filling_from(rows, table)
                self.assertEqual(sorted_of(filling), rows)
                self.assertEqual(table_of(filling), table)


class TestOneToOne(unittest.TestCase):

    def test_each_sorted_filling_comes_of_one_filling_for_each_table(self):
        for shape in small_shapes(6):
            found = {}
            for rows in all_fillings(shape):
                found.setdefault(as_key(sorted_of(rows)), []).append(as_key(table_of(rows)))
            tables = sorted(as_key(table) for table in all_tables(shape))
            self.assertEqual(len(tables), count_fillings(shape))
            self.assertEqual(len(found), count_sorted(shape))
            for one in found.values():
                self.assertEqual(sorted(one), tables)


class TestCountFillings(unittest.TestCase):

    def test_edges(self):
        self.assertEqual(count_fillings([1]), 1)
        self.assertEqual(count_fillings([8]), 40320)
        self.assertEqual(count_fillings([1] * 8), 40320)
        self.assertEqual(count_fillings([2, 2]), 12)
        self.assertEqual(count_fillings([3, 2]), 24)

    def test_it_is_the_product_of_the_hooks(self):
        for shape in list(all_shapes(4, 8)) + [[8] * 8, [8, 7, 6, 5, 4, 3, 2, 1]]:
            expected = 1
            for row in hooks(shape):
                for hook in row:
                    expected *= hook
            self.assertEqual(count_fillings(shape), expected)


class TestTableNumbered(unittest.TestCase):

    def test_edges(self):
        self.assertEqual(table_numbered([1], 0), [[0]])
        self.assertEqual(table_numbered([3], 5), [[2, 1, 0]])
        self.assertEqual(table_numbered([3], 1), [[0, 1, 0]])
        self.assertEqual(table_numbered([1, 1, 1], 0), [[-2], [-1], [0]])
        self.assertEqual(table_numbered([1, 1, 1], 1), [[-2], [0], [0]])
        self.assertEqual(table_numbered([1, 1, 1], 5), [[0], [0], [0]])

    def test_all_tables_of_small_shapes_in_their_order(self):
        for shape in small_shapes(6):
            for number, table in enumerate(all_tables(shape)):
                self.assertEqual(table_numbered(shape, number), table)

    def test_the_first_and_the_last_one(self):
        for shape in list(all_shapes(8, 3)) + [[8] * 8, [8, 7, 6, 5, 4, 3, 2, 1], [8], [1] * 8]:
            limits = bounds_of(shape)
            least = [[low for low, _ in row] for row in limits]
            greatest = [[high for _, high in row] for row in limits]
            self.assertEqual(table_numbered(shape, 0), least)
            self.assertEqual(table_numbered(shape, count_fillings(shape) - 1), greatest)

    def test_great_numbers_ascend_with_their_tables(self):
        numbers = random.Random(16)
        for shape in [[8] * 8, [8, 8, 7, 5, 5, 2, 1], [8, 1, 1, 1, 1, 1, 1, 1]]:
            many = count_fillings(shape)
            chosen = sorted({numbers.randrange(many) for _ in range(200)} | {0, 1, many - 2, many - 1})
            tables = [table_numbered(shape, number) for number in chosen]
            self.assertTrue(all(before < after for before, after in zip(tables, tables[1:])))
            for number, table in zip(chosen, tables):
                self.assertEqual(self.number_of(shape, table), number)

    def number_of(self, shape, table):
        """How many tables come before one, counted from its first cell on."""
        number = 0
        for row, limits, spans in zip(table, bounds_of(shape), hooks(shape)):
            for worth, (low, _), hook in zip(row, limits, spans):
                number = number * hook + worth - low
        return number


if __name__ == "__main__":
    unittest.main()
