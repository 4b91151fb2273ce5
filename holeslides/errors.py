"""The errors of the package.

The messages show no field: a field can hold anything that was passed, also
what cannot be turned into text.
"""


class InvalidShape(ValueError):
    """A shape is not as described; `index` is that of the first wrong length, or None."""

    def __init__(self, index):
        ValueError.__init__(self, "shape is not a list of lengths of rows, none greater than the one before")
        self.index = index


class InvalidMissing(ValueError):
    """Missing cells are not as described; `index` is that of the first wrong number, or None."""

    def __init__(self, index):
        ValueError.__init__(self, "missing is not a list of numbers of missing cells, none greater than the one before")
        self.index = index


class InvalidRows(ValueError):
    """Rows are not as described; `index` is that of the first wrong row, or None."""

    def __init__(self, index):
        ValueError.__init__(self, "rows is not a list of rows of whole numbers that fit together")
        self.index = index


class InvalidWord(ValueError):
    """A word is not as described; `index` is that of the first wrong letter, or None."""

    def __init__(self, index):
        ValueError.__init__(self, "a word is not a list of whole numbers of an allowed length")
        self.index = index


class InvalidOrder(ValueError):
    """An order is not as described; `index` is that of the first wrong row, its length, or None."""

    def __init__(self, index):
        ValueError.__init__(self, "order is not a list of rows that can be taken one after the other to the end")
        self.index = index


class NotSorted(ValueError):
    """A piece is not sorted, or its numbers are not unlike; `row` is the first such row, from 1."""

    def __init__(self, row):
        ValueError.__init__(self, "the numbers do not ascend as they have to")
        self.row = row


class InvalidTable(ValueError):
    """A table is not as described; `row` is the first wrong row, from 1, or None."""

    def __init__(self, row):
        ValueError.__init__(self, "table is not a list of rows of whole numbers within their bounds")
        self.row = row


class NoHole(LookupError):
    """No hole can be filled in `row`, which is what was passed."""

    def __init__(self, row):
        LookupError.__init__(self, "this is no row whose hole can be filled")
        self.row = row


class NoCorner(LookupError):
    """No cell can be put or taken out at the end of `row`, which is what was passed."""

    def __init__(self, row):
        LookupError.__init__(self, "this is no row at whose end a cell can be put or taken out")
        self.row = row


class InvalidNumber(ValueError):
    """A number is not as described; `number` is what was passed."""

    def __init__(self, number):
        ValueError.__init__(self, "this is not a whole number of the allowed kind")
        self.number = number


class NotAlike(ValueError):
    """Two words do not have the same straight rows."""


class NothingToUndo(LookupError):
    """There is no deed that is not taken back yet."""
