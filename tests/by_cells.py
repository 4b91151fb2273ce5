"""Pieces looked up cell by cell: what slides and runs have to return."""

from tests.things import cells_of


def reaches_of(missing, rows):
    return [gone + len(row) for gone, row in zip(missing, rows)]


def rows_of(cells, many):
    """The rows of numbers that stand by row and column, in so many rows."""
    return [
        [cells[place] for place in sorted(cells) if place[0] == row]
        for row in range(1, many + 1)
    ]


def slide_by_cells(missing, rows, row):
    """What `slide` has to return, by looking cells up."""
    cells = cells_of(missing, rows)
    after = missing[:row - 1] + [missing[row - 1] - 1] + missing[row:]
    hole = (row, missing[row - 1])
    while True:
        near = [(hole[0] + 1, hole[1]), (hole[0], hole[1] + 1)]
        near = [place for place in near if place in cells]
        if not near:
            return after, rows_of(cells, len(rows)), hole[0]
        # Of equal numbers `min` finds the first one, which is the lower one.
        source = min(near, key=lambda place: cells[place])
        cells[hole] = cells.pop(source)
        hole = source


def slide_back_by_cells(missing, rows, row):
    """What `slide_back` has to return, by looking cells up."""
    cells = cells_of(missing, rows)
    after = missing + [0] if row > len(missing) else list(missing)
    place = (row, 1 if row > len(missing) else missing[row - 1] + len(rows[row - 1]) + 1)
    while True:
        near = [(place[0] - 1, place[1]), (place[0], place[1] - 1)]
        near = [source for source in near if source in cells]
        if not near:
            after[place[0] - 1] += 1
            return after, rows_of(cells, len(after)), place[0]
        source = max(near, key=lambda source: cells[source])
        cells[place] = cells.pop(source)
        place = source


def holes_by_cells(missing):
    gone = {(row, column) for row, many in enumerate(missing, 1) for column in range(1, many + 1)}
    return sorted({row for row, column in gone if (row, column + 1) not in gone and (row + 1, column) not in gone})


def ends_by_cells(missing, rows):
    reaches = reaches_of(missing, rows)
    taken = {(row, column) for row, reach in enumerate(reaches, 1) for column in range(1, reach + 1)}
    found = []
    for row in range(1, min(len(rows) + 1, 8) + 1):
        column = reaches[row - 1] + 1 if row <= len(rows) else 1
        if column <= 8 and (row == 1 or (row - 1, column) in taken):
            found.append(row)
    return found


def all_orders(missing):
    """All orders in which the holes can be filled."""
    if not any(missing):
        yield []
    for row in holes_by_cells(missing):
        for rest in all_orders(missing[:row - 1] + [missing[row - 1] - 1] + missing[row:]):
            yield [row] + rest


def any_order(missing, numbers):
    order, left = [], list(missing)
    while any(left):
        order.append(numbers.choice(holes_by_cells(left)))
        left[order[-1] - 1] -= 1
    return order


def run_by_cells(missing, rows, order):
    """What `straightened_by` has to return, hole by hole."""
    shortened = []
    for row in order:
        missing, rows, short = slide_by_cells(missing, rows, row)
        shortened.append(short)
    while rows and not rows[-1]:
        rows = rows[:-1]
    return rows, shortened


def numbered(missing, rows):
    """The piece with its cells numbered, lesser numbers and those farther to
    the left first; and the numbers by their places in this order.
    """
    cells = cells_of(missing, rows)
    order = sorted(cells, key=lambda place: (cells[place], place[1]))
    ranks = {place: rank for rank, place in enumerate(order)}
    return rows_of(ranks, len(rows)), [cells[place] for place in order]


def number_back(rows, numbers):
    return [[numbers[rank] for rank in row] for row in rows]
