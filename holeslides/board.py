"""Boards: a piece whose holes are filled, and whose cells are put back, deed by deed."""

from holeslides.checks import check_sorted_piece
from holeslides.errors import NothingToUndo
from holeslides.pieces import word_of
from holeslides.slides import ends, holes, slide, slide_back, straightened


class Board:
    """A sorted piece, with deeds that can be taken back."""

    def __init__(self, missing, rows):
        check_sorted_piece(missing, rows)
        self._missing = list(missing)
        self._rows = [list(row) for row in rows]
        # For each deed that is not taken back, the lists before it.
        self._deeds = []

    @property
    def missing(self):
        """The list that tells how many cells are missing in each row now."""
        return list(self._missing)

    @property
    def rows(self):
        """The list of the numbers of each row now."""
        return [list(row) for row in self._rows]

    def __len__(self):
        return len(self._deeds)

    def holes(self):
        """The list of the rows whose last missing cell can be filled now, ascending."""
        return holes(self._missing)

    def ends(self):
        """The list of the rows at whose end a cell can be put now, ascending."""
        return ends(self._missing, self._rows)

    def word(self):
        """The word of the piece now."""
        return word_of(self._missing, self._rows)

    def straight(self):
        """The list of the rows of the straightened piece."""
        return straightened(self._missing, self._rows)

    def slide(self, row):
        """Fill the hole of a row; the row that reaches less far then."""
        missing, rows, shorter = slide(self._missing, self._rows, row)
        self._do(missing, rows)
        return shorter

    def slide_back(self, row):
        """Put a cell at the end of a row; the row in which one cell more is missing then."""
        missing, rows, opened = slide_back(self._missing, self._rows, row)
        self._do(missing, rows)
        return opened

    def run(self, order):
        """A generator that fills the holes of the rows of a list, and yields the rows after each one."""
        for row in order:
            self.slide(row)
            yield self.rows

    def undo(self):
        """Take back the last deed that is not taken back yet."""
        if not self._deeds:
            raise NothingToUndo()
        self._missing, self._rows = self._deeds.pop()

    def _do(self, missing, rows):
        """Take new lists for those now, which are kept until the deed is taken back."""
        self._deeds.append((self._missing, self._rows))
        self._missing = missing
        self._rows = rows
