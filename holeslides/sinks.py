"""Sinking: fillings that are sorted cell by cell, their tables, and the way back from both."""

from holeslides.checks import (
    are_whole, check_number_below, check_rows_alone, check_shape, check_straight, check_unlike, first_repeating,
)
from holeslides.errors import InvalidRows, InvalidTable
from holeslides.shapes import column_lengths, hooks, product_of_hooks
from holeslides.slides import lesser_neighbour


def sorted_of(rows):
    """The rows of the sorted filling to which a filling comes."""
    check_filling(rows)
    return sunk(rows)[0]


def table_of(rows):
    """The table of a filling."""
    check_filling(rows)
    return sunk(rows)[1]


def filling_from(rows, table):
    """The filling that comes to the rows of a straight piece of unlike numbers with a table."""
    check_straight(rows)
    check_unlike(rows)
    check_table(rows, table)
    cells = [list(row) for row in rows]
    left = [list(row) for row in table]
    for index, column in cells_by_columns(rows):
        way = way_taken(cells, left, index, column)
        draw_back(cells, way)
        note_drawn(left, index, column, way[-1])
    return cells


def count_fillings(shape):
    """The number of the fillings of a shape that come to each sorted one."""
    check_shape(shape)
    return product_of_hooks(shape)


def table_numbered(shape, number):
    """The table of a shape with a number."""
    check_shape(shape)
    check_number_below(number, product_of_hooks(shape))
    spans = hooks(shape)
    columns = column_lengths(shape)
    table = []
    # The last cell is the last digit: each cell has as many numbers as its hook.
    for index in range(len(shape) - 1, -1, -1):
        row = []
        for column in range(shape[index] - 1, -1, -1):
            number, place = divmod(number, spans[index][column])
            row.append(place - cells_below(columns, index, column))
        table.append(row[::-1])
    return table[::-1]


def check_filling(rows):
    """Raise InvalidRows if these are not the rows of a filling by unlike numbers."""
    check_rows_alone(rows)
    index = first_repeating(rows)
    if index is not None:
        raise InvalidRows(index)


def check_table(rows, table):
    """Raise InvalidTable if this is no table for the cells of rows, which are checked before."""
    if not isinstance(table, list) or len(table) != len(rows):
        raise InvalidTable(None)
    shape = [len(row) for row in rows]
    for index, numbers in enumerate(table):
        if not is_row_of_table(numbers, shape, index):
            raise InvalidTable(index + 1)


def is_row_of_table(numbers, shape, index):
    """Whether a thing is a list of whole numbers within the bounds of the table's row with this index."""
    if not are_whole(numbers) or len(numbers) != shape[index]:
        return False
    columns = column_lengths(shape)
    return all(
        -cells_below(columns, index, column) <= number < shape[index] - column
        for column, number in enumerate(numbers)
    )


def cells_below(columns, index, column):
    """How many cells are below a cell of a shape whose columns have these lengths."""
    return columns[column] - index - 1


def cells_by_columns(rows):
    """The index and the column of each cell, the first column first, each from above."""
    return [
        (index, column) for column in range(len(rows[0]))
        for index in range(len(rows)) if column < len(rows[index])
    ]


def sunk(rows):
    """A tuple of the sorted filling to which a filling comes, and of its table."""
    cells = [list(row) for row in rows]
    table = [[0] * len(row) for row in rows]
    for index, column in reversed(cells_by_columns(rows)):
        end = sink(cells, index, column)
        note_sunk(table, index, column, end)
    return cells, table


def sink(cells, index, column):
    """Sink a cell of a filling, which is changed; the index and the column where its number comes to rest."""
    number = cells[index][column]
    source = lesser_neighbour(cells, index, column)
    while source is not None and cells[source[0]][source[1]] < number:
        cells[index][column] = cells[source[0]][source[1]]
        index, column = source
        source = lesser_neighbour(cells, index, column)
    cells[index][column] = number
    return index, column


def note_sunk(table, index, column, end):
    """Change a table after the number of a cell came to rest at another one, or at the same."""
    for at in range(index, end[0]):
        table[at][column] = table[at + 1][column] - 1
    table[end[0]][column] = end[1] - column


def way_taken(cells, table, index, column):
    """The way from a cell to where its number came to rest, as told by a table."""
    ways = [
        way_between(cells, index, column, (at, column + table[at][column]))
        for at in range(index, len(cells)) if column < len(cells[at]) and table[at][column] >= 0
    ]
    return min(ways, key=turns_of)


def way_between(cells, index, column, end):
    """The cells, each by its index and column, of the way that leads to a cell
    back from another one, below it or to its right, seen from the cell.
    """
    row, place = end
    way = [end]
    while (row, place) != (index, column):
        if place == column or (row > index and cells[row - 1][place] > cells[row][place - 1]):
            row -= 1
        else:
            place -= 1
        way.append((row, place))
    return way[::-1]


def turns_of(way):
    """How a way goes on at each of its cells: 0 to the right, 2 down, 1 where it ends.

    Of two ways that one is taken whose list is the lesser one.
    """
    return [0 if way[at][0] == way[at - 1][0] else 2 for at in range(1, len(way))] + [1]


def draw_back(cells, way):
    """Bring the number at the end of a way back to its begin, in cells, which are changed."""
    number = cells[way[-1][0]][way[-1][1]]
    for at in range(len(way) - 1, 0, -1):
        cells[way[at][0]][way[at][1]] = cells[way[at - 1][0]][way[at - 1][1]]
    cells[way[0][0]][way[0][1]] = number


def note_drawn(table, index, column, end):
    """Change a table after the number of a cell was brought back to it from another one, or from the same."""
    for at in range(end[0], index, -1):
        table[at][column] = table[at - 1][column] + 1
    table[index][column] = 0
