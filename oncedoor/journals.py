"""The journal: rows behind one another, the first of them safe from a fall."""

from oncedoor.errors import NoJournal, NoRow
from oncedoor.rows import read_row, shown_row


class Journal:
    """Rows, and how many of them, from the first on, are safe."""

    def __init__(self, text=""):
        self.written = rows_of(text)
        self.safe_count = len(self.written)

    def write(self, row):
        """Put a row behind the others; it isn't safe yet."""
        self.written.append(row)

    def force(self):
        """Make all rows safe."""
        self.safe_count = len(self.written)

    def fall(self, more):
        """Keep the safe rows, and those whose lines lie wholly within as many signs behind them as more tells."""
        stays = self.safe_count
        for row in self.written[self.safe_count:]:
            more = more - len(line_of(row))
            if more < 0:
                break
            stays = stays + 1
        self.written = self.written[:stays]
        self.force()

    def rows(self):
        """All rows."""
        return list(self.written)

    def text(self):
        """The lines of all rows."""
        return "".join([line_of(row) for row in self.written])

    def safe(self):
        """How many rows are safe."""
        return self.safe_count

    def is_safe(self, row):
        """Whether a row is among the safe ones."""
        return row in self.written[:self.safe_count]


def line_of(row):
    """A row's line with its line end."""
    return shown_row(row) + "\n"


def rows_of(text):
    """The rows of a journal's text, a torn end left out; NoJournal at the first line that is no row's."""
    rows = []
    for place, line in enumerate(text.split("\n")[:-1]):
        try:
            rows.append(read_row(line))
        except NoRow:
            raise NoJournal(place) from None
    return rows
