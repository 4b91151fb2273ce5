"""Slides: how holes are filled and cells put back, and what comes when no cell is missing."""

from holeslides.checks import MOST, check_missing, check_sorted_piece, is_one_of
from holeslides.errors import InvalidOrder, NoCorner, NoHole
from holeslides.shapes import corner_rows, count_sorted


def holes(missing):
    """The list of the rows whose last missing cell can be filled, ascending."""
    check_missing(missing)
    return corner_rows(missing)


def ends(missing, rows):
    """The list of the rows at whose end a cell can be put, ascending; a new row comes last."""
    check_sorted_piece(missing, rows)
    return end_rows(missing, rows)


def slide(missing, rows, row):
    """A tuple of both lists after the hole of a row is filled, and of the row that reaches less far then."""
    check_sorted_piece(missing, rows)
    if not is_one_of(row, corner_rows(missing)):
        raise NoHole(row)
    return with_hole_filled(missing, rows, row)


def slide_back(missing, rows, row):
    """A tuple of both lists after a cell is put at the end of a row, and of the
    row in which one cell more is missing then.
    """
    check_sorted_piece(missing, rows)
    if not is_one_of(row, end_rows(missing, rows)):
        raise NoCorner(row)
    return with_cell_put(missing, rows, row)


def straightened(missing, rows):
    """The list of the rows of the straightened piece."""
    check_sorted_piece(missing, rows)
    return with_all_filled(missing, rows, order_from_below(missing))[0]


def straightened_by(missing, rows, order):
    """A tuple of the rows of the straightened piece and of the list of the rows
    that reach less far, one after the other, when the holes are filled in an order.
    """
    check_sorted_piece(missing, rows)
    check_order(missing, order)
    return with_all_filled(missing, rows, order)


def count_orders(missing):
    """The number of the orders in which all holes can be filled."""
    check_missing(missing)
    shape = [gone for gone in missing if gone > 0]
    return count_sorted(shape) if shape else 1


def check_order(missing, order):
    """Raise InvalidOrder if holes cannot be filled in this order until no cell is missing."""
    if not isinstance(order, list):
        raise InvalidOrder(None)
    left = list(missing)
    for index, row in enumerate(order):
        if not is_one_of(row, corner_rows(left)):
            raise InvalidOrder(index)
        left[row - 1] -= 1
    if sum(left) > 0:
        raise InvalidOrder(len(order))


def order_from_below(missing):
    """An order in which all holes can be filled: row by row, the last one first."""
    return [row for row in range(len(missing), 0, -1) for _ in range(missing[row - 1])]


def end_rows(missing, rows):
    """What `ends` returns, for a piece that is checked before."""
    reaches = [gone + len(row) for gone, row in zip(missing, rows)]
    before = [MOST] + reaches
    # A new row is one that reaches to column 0 until its first cell is put.
    if len(reaches) < MOST:
        reaches.append(0)
    return [index + 1 for index, reach in enumerate(reaches) if reach < before[index]]


def with_hole_filled(missing, rows, row):
    """What `slide` returns, for arguments that are checked before."""
    cells = cells_of(missing, rows)
    index, column = row - 1, missing[row - 1] - 1
    source = lesser_neighbour(cells, index, column)
    while source is not None:
        cells[index][column] = cells[source[0]][source[1]]
        index, column = source
        source = lesser_neighbour(cells, index, column)
    cells[index].pop()
    after = list(missing)
    after[row - 1] -= 1
    return after, numbers_of(after, cells), index + 1


def with_cell_put(missing, rows, row):
    """What `slide_back` returns, for arguments that are checked before."""
    cells = cells_of(missing, rows)
    after = list(missing)
    if row > len(rows):
        cells.append([])
        after.append(0)
    index, column = row - 1, len(cells[row - 1])
    cells[index].append(None)
    source = greater_neighbour(cells, index, column)
    while source is not None:
        cells[index][column] = cells[source[0]][source[1]]
        index, column = source
        source = greater_neighbour(cells, index, column)
    after[index] += 1
    return after, numbers_of(after, cells), index + 1


def with_all_filled(missing, rows, order):
    """What `straightened_by` returns, for arguments that are checked before."""
    shortened = []
    for row in order:
        missing, rows, short = with_hole_filled(missing, rows, row)
        shortened.append(short)
    return [list(numbers) for numbers in rows if numbers], shortened


def cells_of(missing, rows):
    """New lists of the cells of the rows of a piece, None for each missing one."""
    return [[None] * gone + row for gone, row in zip(missing, rows)]


def numbers_of(missing, cells):
    """New lists of the numbers of the rows whose cells these are."""
    return [row[gone:] for gone, row in zip(missing, cells)]


def lesser_neighbour(cells, index, column):
    """The index and the column of the cell from which a hole is filled; None if there is none."""
    right = column + 1 < len(cells[index])
    below = index + 1 < len(cells) and column < len(cells[index + 1])
    if below and (not right or cells[index + 1][column] <= cells[index][column + 1]):
        return index + 1, column
    if right:
        return index, column + 1
    return None


def greater_neighbour(cells, index, column):
    """The index and the column of the cell from which a slide back fills a cell; None if there is none."""
    left = cells[index][column - 1] if column > 0 else None
    above = cells[index - 1][column] if index > 0 else None
    if above is not None and (left is None or left <= above):
        return index - 1, column
    if left is not None:
        return index, column - 1
    return None
