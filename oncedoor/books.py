"""The book: an amount for each name."""

from oncedoor.errors import NoChange
from oncedoor.words import MOST


class Book:
    """Amounts by names, 0 for names that were never told."""

    def __init__(self, rows=None):
        self.amounts = {}
        if rows is not None:
            self.amounts = dict(rows)

    def amount(self, name):
        """The amount of a name."""
        return self.amounts.get(name, 0)

    def rows(self):
        """The pairs (name, amount) of amounts above 0, by names."""
        return [(name, self.amounts[name]) for name in sorted(self.amounts) if self.amounts[name] > 0]

    def change(self, changes):
        """Add to the amounts; NoChange, and nothing added, where one would go out of its bounds."""
        # All are looked at ahead of the first one that is made: a refusal leaves the book as it was.
        for name, by in changes:
            if not 0 <= self.amount(name) + by <= MOST:
                raise NoChange(name)
        for name, by in changes:
            self.amounts[name] = self.amount(name) + by
