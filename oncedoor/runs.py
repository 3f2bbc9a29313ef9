"""Runs: deeds under way, and all else that a door loses by a fall."""

from oncedoor.answers import changes_of
from oncedoor.books import Book
from oncedoor.deeds import asks_of, names_of
from oncedoor.keys import Keys


class Run:
    """A deed under way: its stage, and how far its asks have come."""

    def __init__(self, number, asker, key, deed, stage):
        self.number = number
        self.asker = asker
        self.key = key
        self.deed = deed
        self.stage = stage
        # How many of its asks, from the first on, were answered yes: so also the place of the next one.
        self.place = 0
        # How many of its places, from the first on, are to be undone.
        self.undos = 0

    def as_tuple(self):
        """The tuple (number, asker, key, deed, stage)."""
        return (self.number, self.asker, self.key, self.deed, self.stage)

    def hear(self, word):
        """Go on by what the house of the next ask told."""
        if word == "no":
            self.turn_back(self.place)
            return
        # "undone" is heard where a fall came amid the undoing: a house behind told "no", and tells so again.
        self.place = self.place + 1
        if self.place == len(asks_of(self.deed)):
            self.stage = "heard"

    def turn_back(self, undos):
        """Go on where so many places are to be undone."""
        self.undos = undos
        self.stage = "undoing" if undos > 0 else "heard"

    def is_held_up_by(self, other):
        """Whether a run holds a name that this one, which is new, touches."""
        # New ones hold nothing, so this one is not held up by itself either.
        if other.stage == "new":
            return False
        return any([name in names_of(other.deed) for name in names_of(self.deed)])


class Memory:
    """A door's turn, book, keys and runs, made of what its rows come up to."""

    def __init__(self, life, turn, up):
        self.turn = turn
        self.book = Book(up[0])
        self.standing = Keys(life)
        self.runs = {}
        self.next_number = up[3]
        for number, since, asker, key, deed, answer in up[1]:
            self.standing.begin(asker, key, number, deed)
            self.standing.settle(asker, key, since, answer)
        for number, asker, key, deed in up[2]:
            self.put(number, asker, key, deed, "asked")

    def put(self, number, asker, key, deed, stage):
        """Put a deed under way."""
        self.standing.begin(asker, key, number, deed)
        self.runs[number] = Run(number, asker, key, deed, stage)

    def begin(self, asker, key, deed):
        """Put a new deed under way, and tell its number."""
        number = self.next_number
        self.next_number = number + 1
        self.put(number, asker, key, deed, "new")
        return number

    def hold(self, run):
        """Hold a new run's names, where none of them is held."""
        holders = [other for other in sorted(self.runs) if run.is_held_up_by(self.runs[other])]
        if len(holders) > 0:
            return ("waits", holders[0])
        run.stage = "held"
        return ("holds",)

    def end(self, number, turn, answer):
        """End a run by its done row: its number, asker, key and answer."""
        run = self.runs.pop(number)
        self.book.change(changes_of(run.deed, answer))
        self.standing.settle(run.asker, run.key, turn, answer)
        return (number, run.asker, run.key, answer)
