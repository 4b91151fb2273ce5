"""Things that several tests use: wrong arguments, shapes, pieces cell by cell, words."""

import itertools
import random


class LikeAList:
    """Has the methods by which a list is read, and is none."""

    def __len__(self):
        return 1

    def __getitem__(self, index):
        return [1][index]

    def __iter__(self):
        return iter([1])


class Awkward:
    """Answers nothing that it is asked, not even whether it equals something."""

    def refuse(self, *rest):
        raise RuntimeError("asked something")

    __bool__ = __eq__ = __lt__ = __le__ = __gt__ = __ge__ = __len__ = __iter__ = refuse
    __getitem__ = __int__ = __index__ = __str__ = __repr__ = __hash__ = refuse


def no_lists():
    """Things that are no lists, some of which look like lists of numbers."""
    return [
        None, True, False, 0, 1, -1, 10 ** 70, 1.0, float("nan"), 1j, "", "1", "321", b"1", bytearray(b"1"),
        (), (1,), (3, 2, 1), {1}, frozenset({1}), {}, {0: 1}, range(1), range(3, 0, -1), iter([1]),
        (n for n in [1]), reversed([1]), [1].append, list, int, object(), LikeAList(), Awkward(),
    ]


def no_numbers():
    """Things that are no whole numbers."""
    return [
        None, True, False, 1.0, 2.5, float("nan"), float("inf"), 1 + 0j, "", "1", b"1", (), (1,), [], [1], {},
        {1}, range(1), iter([1]), int, object(), LikeAList(), Awkward(),
    ]


def all_shapes(most_rows, most_cells):
    """All shapes of so many rows and cells in a row at most."""
    def longer(shape):
        if shape:
            yield list(shape)
        if len(shape) < most_rows:
            for length in range(1, (shape[-1] if shape else most_cells) + 1):
                yield from longer(shape + [length])
    return longer([])


def all_missing(most_rows, most_cells):
    """All lists of missing cells of so many rows and cells in a row at most."""
    for shape in all_shapes(most_rows, most_cells + 1):
        yield [length - 1 for length in shape]


def all_lengths(missing, furthest):
    """All lists of the numbers of numbers that rows beside `missing` can have."""
    if not missing:
        yield []
        return
    for reach in range(missing[0], furthest + 1):
        for rest in all_lengths(missing[1:], reach):
            yield [reach - missing[0]] + rest


def cells_of(missing, rows):
    """The numbers of a piece by row and column, both from 1."""
    cells = {}
    for row in range(1, len(missing) + 1):
        for place in range(1, len(rows[row - 1]) + 1):
            cells[row, missing[row - 1] + place] = rows[row - 1][place - 1]
    return cells


def unsorted_rows(missing, rows):
    """The rows, from 1, in which a number stands that is out of order, ascending."""
    cells = cells_of(missing, rows)
    wrong = set()
    for (row, column), number in cells.items():
        if (row, column - 1) in cells and number < cells[row, column - 1]:
            wrong.add(row)
        if (row - 1, column) in cells and number <= cells[row - 1, column]:
            wrong.add(row)
    return sorted(wrong)


def fillings(lengths, greatest):
    """All rows of such lengths with numbers from 1 to `greatest`."""
    for numbers in itertools.product(range(1, greatest + 1), repeat=sum(lengths)):
        left = list(numbers)
        yield [[left.pop(0) for _ in range(length)] for length in lengths]


def small_pieces(most_rows, furthest, most_numbers, greatest):
    """All sorted pieces within such limits, with numbers from 1 to `greatest`."""
    for missing in all_missing(most_rows, furthest):
        for lengths in all_lengths(missing, furthest):
            if sum(lengths) <= most_numbers:
                for rows in fillings(lengths, greatest):
                    if not unsorted_rows(missing, rows):
                        yield missing, rows


def small_straight(most_numbers, greatest):
    """The rows of all straight pieces of so many numbers at most, from 1 to `greatest`."""
    for shape in all_shapes(most_numbers, most_numbers):
        if sum(shape) <= most_numbers:
            for rows in fillings(shape, greatest):
                if not unsorted_rows([0] * len(rows), rows):
                    yield rows


def random_piece(numbers, most_rows=8, furthest=8):
    """A sorted piece, with numbers that are often equal along the rows."""
    many = numbers.randint(1, most_rows)
    missing = sorted((numbers.randint(0, furthest) for _ in range(many)), reverse=True)
    rows, reach, above = [], furthest, {}
    for gone in missing:
        reach = numbers.randint(gone, reach)
        row = {}
        for column in range(gone + 1, reach + 1):
            least = max(row.get(column - 1, -5), above.get(column, -5) + 1)
            row[column] = least + numbers.choice([0, 0, 0, 1, 2])
        rows.append([row[column] for column in sorted(row)])
        above = row
    return missing, rows


def small_words(most_letters, greatest):
    """All words of so many letters at most, from 1 to `greatest`."""
    for many in range(1, most_letters + 1):
        for letters in itertools.product(range(1, greatest + 1), repeat=many):
            yield list(letters)


def ranked(word):
    """The letters' places in their order, lesser ones first, of equal ones the earlier."""
    order = sorted(range(len(word)), key=lambda at: (word[at], at))
    return [order.index(at) + 1 for at in range(len(word))]


def put_back(numbers, word):
    """The letters of a word instead of their ranks, in lists of any depth."""
    if isinstance(numbers, list):
        return [put_back(number, word) for number in numbers]
    return sorted(word)[numbers - 1]


def put_by_words(rows, number):
    """What `put_in` has to return, row by row; rows may be none, too."""
    if not rows:
        return [[number]], 1
    greater = [other for other in rows[0] if other > number]
    if not greater:
        return [rows[0] + [number]] + rows[1:], 1
    lesser = rows[0][:len(rows[0]) - len(greater)]
    rest, grown = put_by_words(rows[1:], greater[0])
    return [lesser + [number] + greater[1:]] + rest, grown + 1


def straight_by_words(word):
    """The straight rows of a word of any length, and the rows that grow."""
    rows, order = [], []
    for letter in word:
        rows, grown = put_by_words(rows, letter)
        order.append(grown)
    return rows, order


def lists_in(thing):
    """All list objects in lists and tuples, also the thing itself, as often as they occur."""
    if isinstance(thing, (list, tuple)):
        found = [thing] if isinstance(thing, list) else []
        for part in thing:
            found += lists_in(part)
        return found
    return []


def great_pieces(many):
    numbers = random.Random(many)
    return [random_piece(numbers) for _ in range(many)]


def lengths_of(rows):
    return [len(row) for row in rows]


def all_growths(shape):
    """All orders in which rows can grow from nothing to a shape."""
    if not shape:
        yield []
    for row in range(1, len(shape) + 1):
        if row == len(shape) or shape[row - 1] > shape[row]:
            rest = shape[:row - 1] + [shape[row - 1] - 1] + shape[row:]
            for order in all_growths([length for length in rest if length > 0]):
                yield order + [row]


def random_growth(shape, numbers):
    lengths, order = [0] * len(shape), []
    while lengths != shape:
        row = numbers.randrange(len(shape))
        if lengths[row] < (min(shape[row], lengths[row - 1]) if row else shape[row]):
            lengths[row] += 1
            order.append(row + 1)
    return order


def random_words(many, least, most, greatest):
    numbers = random.Random(many)
    for _ in range(many):
        yield [numbers.randint(1, greatest) for _ in range(numbers.randint(least, most))]


def great_words():
    """Words of 40 letters: all unlike, all equal, ascending, falling, mixed."""
    numbers = random.Random(40)
    unlike = list(range(1, 41))
    numbers.shuffle(unlike)
    mixed = [numbers.randint(1, 9) for _ in range(40)]
    great = [10 ** 59 + letter for letter in unlike]
    stairs = [10 * (letter % 7) - letter for letter in range(40)]
    return [unlike, [6] * 40, list(range(40)), list(range(40, 0, -1)), mixed, great, stairs]


def random_shape(numbers):
    return sorted((numbers.randint(1, 8) for _ in range(numbers.randint(1, 8))), reverse=True)


def straight_that_grows(order, many, ascending):
    """The straight piece in whose rows the numbers stand, one after the other."""
    rows = [[] for _ in range(many)]
    for row, number in zip(order, ascending):
        rows[row - 1].append(number)
    return rows


def random_straight(shape, numbers, unlike=False):
    """A straight piece of a shape, whose numbers can be equal along the rows."""
    order = random_growth(shape, numbers)
    ascending, last = [], numbers.choice([-10 ** 59, -20, 1])
    for at, row in enumerate(order):
        # An equal number stands farther to the right, and never below the one before.
        if unlike or (at > 0 and row > order[at - 1]) or numbers.random() < 0.5:
            last += numbers.choice([1, 2, 10 ** 57])
        ascending.append(last)
    return straight_that_grows(order, len(shape), ascending)


def great_straight(many, unlike=False):
    """Straight pieces of up to 64 numbers, one of which fills eight rows of eight cells."""
    numbers = random.Random(many)
    shapes = [[8] * 8] + [random_shape(numbers) for _ in range(many - 1)]
    return [random_straight(shape, numbers, unlike) for shape in shapes]


def unlike_straight(most_numbers):
    """All straight pieces with the numbers from 1 on, each once, of so many numbers at most."""
    return [
        straight_that_grows(order, len(shape), range(1, sum(shape) + 1))
        for shape in all_shapes(most_numbers, most_numbers) if sum(shape) <= most_numbers
        for order in all_growths(shape)
    ]


def roles_exchanged(word):
    """The numbers of a word, in which the least and the greatest one have changed their roles, and so on."""
    ascending = sorted(word)
    return [ascending[len(word) - 1 - ascending.index(letter)] for letter in word]
