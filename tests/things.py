"""Things that several tests use: wrong arguments, shapes, pieces cell by cell."""


class LikeAList:
    """Has the methods by which a list is read, and is none."""

    def __len__(self):
        return 1

    def __getitem__(self, index):
        return [1][index]

    def __iter__(self):
        return iter([1])


class Awkward:
    """Answers nothing that it is asked, not even whether it equals something."""

    def refuse(self, *rest):
        raise RuntimeError("asked something")

    __bool__ = __eq__ = __lt__ = __le__ = __gt__ = __ge__ = __len__ = __iter__ = refuse
    __getitem__ = __int__ = __index__ = __str__ = __repr__ = __hash__ = refuse


def no_lists():
    """Things that are no lists, some of which look like lists of numbers."""
    return [
        None, True, False, 0, 1, -1, 10 ** 70, 1.0, float("nan"), 1j, "", "1", "321", b"1", bytearray(b"1"),
        (), (1,), (3, 2, 1), {1}, frozenset({1}), {}, {0: 1}, range(1), range(3, 0, -1), iter([1]),
        (n for n in [1]), reversed([1]), [1].append, list, int, object(), LikeAList(), Awkward(),
    ]


def no_numbers():
    """Things that are no whole numbers."""
    return [
        None, True, False, 1.0, 2.5, float("nan"), float("inf"), 1 + 0j, "", "1", b"1", (), (1,), [], [1], {},
        {1}, range(1), iter([1]), int, object(), LikeAList(), Awkward(),
    ]


def all_shapes(most_rows, most_cells):
    """All shapes of so many rows and cells in a row at most."""
    def longer(shape):
        if shape:
            yield list(shape)
        if len(shape) < most_rows:
            for length in range(1, (shape[-1] if shape else most_cells) + 1):
                yield from longer(shape + [length])
    return longer([])


def all_missing(most_rows, most_cells):
    """All lists of missing cells of so many rows and cells in a row at most."""
    for shape in all_shapes(most_rows, most_cells + 1):
        yield [length - 1 for length in shape]


def all_lengths(missing, furthest):
    """All lists of the numbers of numbers that rows beside `missing` can have."""
    if not missing:
        yield []
        return
    for reach in range(missing[0], furthest + 1):
        for rest in all_lengths(missing[1:], reach):
            yield [reach - missing[0]] + rest


def cells_of(missing, rows):
    """The numbers of a piece by row and column, both from 1."""
    cells = {}
    for row in range(1, len(missing) + 1):
        for place in range(1, len(rows[row - 1]) + 1):
            cells[row, missing[row - 1] + place] = rows[row - 1][place - 1]
    return cells


def unsorted_rows(missing, rows):
    """The rows, from 1, in which a number stands that is out of order, ascending."""
    cells = cells_of(missing, rows)
    wrong = set()
    for (row, column), number in cells.items():
        if (row, column - 1) in cells and number < cells[row, column - 1]:
            wrong.add(row)
        if (row - 1, column) in cells and number <= cells[row - 1, column]:
            wrong.add(row)
    return sorted(wrong)
