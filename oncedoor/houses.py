"""Other houses: they add and take, each deed once under its key, and undo."""

from oncedoor.deeds import done_changes, is_deed
from oncedoor.errors import NoDeed, NoKey, Other
from oncedoor.words import MOST, is_key

# The words of the deeds that a house may be asked for.
HOUSE_WORDS = ("add", "take")


class House:
    """Amounts by names, closed names, and what was asked under each key."""

    def __init__(self, rows=None, closed=None):
        self.amounts = {}
        self.closed_names = {}
        # By keys: the pair of the deed first asked, or None, and the word that is told.
        self.entries = {}
        if rows is not None:
            self.amounts = dict(rows)
        if closed is not None:
            for name in closed:
                self.close(name)

    def ask(self, key, deed):
        """Do a deed where it can be done and the key is new; "yes", "no" or "undone"."""
        check_key(key)
        if not is_deed(deed) or deed[0] not in HOUSE_WORDS:
            raise NoDeed("a house is asked to add or to take alone")
        if key not in self.entries:
            self.entries[key] = (deed, self.try_deed(deed))
        entry = self.entries[key]
        if entry[1] != "undone" and entry[0] != deed:
            raise Other("another deed was asked under this key")
        return entry[1]

    def try_deed(self, deed):
        """Do a deed where it can be done; "yes" where it is, else "no"."""
        if not self.can_do(deed):
            return "no"
        for name, by in done_changes(deed):
            self.amounts[name] = self.amount(name) + by
        return "yes"

    def can_do(self, deed):
        """Whether a deed can be done, by the amounts and closed names as they are."""
        name = deed[1]
        if deed[0] == "take":
            return self.amount(name) >= deed[2]
        return name not in self.closed_names and self.amount(name) + deed[2] <= MOST

    def undo(self, key):
        """Undo what was done under a key; nothing is done under it any more."""
        check_key(key)
        entry = self.entries.get(key, (None, "no"))
        if entry[1] == "yes":
            # Undoing is never refused: others may have added or taken since, so the amount may pass its bounds.
            for name, by in done_changes(entry[0]):
                self.amounts[name] = self.amount(name) - by
        self.entries[key] = (entry[0], "undone")

    def close(self, name):
        """Close a name: nothing is added to it."""
        self.closed_names[name] = True

    def reopen(self, name):
        """Open a name again, however often it was closed."""
        self.closed_names.pop(name, None)

    def amount(self, name):
        """The amount of a name."""
        return self.amounts.get(name, 0)

    def rows(self):
        """The pairs (name, amount) of amounts that are not 0, by names."""
        return [(name, self.amounts[name]) for name in sorted(self.amounts) if self.amounts[name] != 0]

    def kept(self):
        """The tuples (key, deed, word) of all keys, by keys."""
        return [(key, self.entries[key][0], self.entries[key][1]) for key in sorted(self.entries)]


def check_key(thing):
    """NoKey where anything is no key."""
    if not is_key(thing):
        raise NoKey("this is no key")
