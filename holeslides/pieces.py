"""Pieces: whether they are sorted, and their words."""

from holeslides.checks import check_piece, check_sorted_piece, first_unsorted


def is_sorted(missing, rows):
    """Whether a piece is sorted."""
    check_piece(missing, rows)
    return first_unsorted(missing, rows) is None


def word_of(missing, rows):
    """The word of a sorted piece: its numbers, the last row first, each row from the left."""
    check_sorted_piece(missing, rows)
    return [number for row in reversed(rows) for number in row]
