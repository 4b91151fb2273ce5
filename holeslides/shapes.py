"""Shapes: their corners, columns and hooks, and how many sorted fillings they have."""

from math import factorial

from holeslides.checks import check_shape


def corners(shape):
    """The list of the rows of all corners, ascending."""
    check_shape(shape)
    return corner_rows(shape)


def turned_over(shape):
    """The list of the lengths of the columns of a shape."""
    check_shape(shape)
    return column_lengths(shape)


def hooks(shape):
    """The list of the lists of the hooks of the rows of a shape."""
    check_shape(shape)
    columns = column_lengths(shape)
    return [
        [(length - column) + (columns[column] - row) - 1 for column in range(length)]
        for row, length in enumerate(shape)
    ]


def count_sorted(shape):
    """The number of the sorted fillings of a shape by the numbers from 1 on."""
    check_shape(shape)
    return factorial(sum(shape)) // product_of_hooks(shape)


def product_of_hooks(shape):
    """The product of the hooks of all cells of a shape."""
    together = 1
    for row in hooks(shape):
        for hook in row:
            together = together * hook
    return together


def corner_rows(lengths):
    """The rows, ascending, that have a last cell and none below it; rows without cells may come last."""
    below = lengths[1:] + [0]
    return [index + 1 for index, length in enumerate(lengths) if length > below[index]]


def growing_rows(lengths, shape):
    """The rows, ascending, that are shorter than both the one before and the same one of a greater shape."""
    return [
        index + 1 for index, length in enumerate(lengths)
        if length < shape[index] and (index == 0 or length < lengths[index - 1])
    ]


def column_lengths(shape):
    """The lengths of the columns of a shape that is checked before."""
    return [sum(1 for length in shape if length > column) for column in range(shape[0])]
