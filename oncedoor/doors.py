"""The door: it takes asks, works on their deeds step by step, falls and rises."""

from oncedoor.answers import early, late
from oncedoor.deeds import asks_of, is_deed
from oncedoor.errors import Down, Late, NoDeed, NoHouse, NoKey, NoName, NoNumber, NoWay, Unsafe, Up
from oncedoor.folds import folded
from oncedoor.journals import Journal
from oncedoor.places import key_of
from oncedoor.risings import risen
from oncedoor.runs import Memory
from oncedoor.words import is_key, is_name

# So that the keys of its places aren't longer than keys may be.
LONGEST_DOOR_NAME = 5

WAYS = ("through", "lost", "unheard")


class Door:
    """A book behind a journal, and other houses to ask."""

    def __init__(self, name, life, houses):
        if not is_name(name) or len(name) > LONGEST_DOOR_NAME:
            raise NoName("this is no door's name")
        self.name = name
        self.life = life
        self.houses = dict(houses)
        self.journal = Journal()
        # None while the door is down.
        self.memory = Memory(life, 0, risen([]))

    def come(self, turn, asker, key, deed):
        """Take an ask: begin its deed, or tell what stands under its key."""
        memory = self.known()
        if not is_name(asker) or not is_key(key):
            raise NoKey("this is no asker's name, or no key")
        if not is_deed(deed):
            raise NoDeed("this is no deed")
        for house, there in asks_of(deed):
            # Called for its refusal.
            self.house_of(house)
        if turn < memory.turn:
            raise Late("the turn is below the door's")
        memory.turn = turn
        seen = memory.standing.look(asker, key, turn)
        if seen[0] != "free":
            return told_again(seen, deed)
        number = memory.begin(asker, key, deed)
        self.journal.write(("came", number, turn, asker, key, deed))
        return ("begun", number)

    def work(self, number, way="through"):
        """Work one step on the deed of this number."""
        memory = self.known()
        if number not in memory.runs:
            raise NoNumber("no deed of this number is under way")
        if way not in WAYS:
            raise NoWay("this is no way to a house")
        run = memory.runs[number]
        if run.stage == "new":
            return memory.hold(run)
        if run.stage == "held":
            return self.write_first(run)
        if run.stage == "asked":
            return self.ask_next(run, way)
        if run.stage == "undoing":
            return self.undo_next(run, way)
        if run.stage == "heard":
            return self.write_done(run, late(memory.book, run.deed, run.place))
        return ("unsafe",)

    def write_first(self, run):
        """Write a done row where a run's answer is known early, else an asked row."""
        answer = early(self.memory.book, run.deed)
        if answer is not None:
            return self.write_done(run, answer)
        self.journal.write(("asked", run.number))
        run.stage = "asked"
        return ("writes", "asked")

    def write_done(self, run, answer):
        """Write a run's done row."""
        self.journal.write(("done", run.number, self.memory.turn, answer))
        run.stage = "written"
        return ("writes", "done")

    def ask_next(self, run, way):
        """Ask the house of a run's next place."""
        # A house that is asked ahead of that might have done what no row tells behind a fall.
        if not self.journal.is_safe(("asked", run.number)):
            return ("unsafe",)
        ask = asks_of(run.deed)[run.place]
        if way == "lost":
            return ("silent", ask[0])
        word = self.houses[ask[0]].ask(key_of(self.name, run.number, run.place), ask[1])
        if way == "unheard":
            return ("silent", ask[0])
        run.hear(word)
        return ("hears", ask[0], word)

    def undo_next(self, run, way):
        """Undo the last one of a run's places that are to be undone."""
        place = run.undos - 1
        house = asks_of(run.deed)[place][0]
        if way == "lost":
            return ("silent", house)
        self.houses[house].undo(key_of(self.name, run.number, place))
        if way == "unheard":
            return ("silent", house)
        run.turn_back(place)
        return ("undoes", house)

    def force(self):
        """Make the journal safe, and end the deeds whose done rows became so."""
        memory = self.known()
        safe = self.journal.safe()
        self.journal.force()
        told = []
        for row in self.journal.rows()[safe:]:
            if row[0] == "done":
                told.append(memory.end(row[1], row[2], row[3]))
        return told

    def fall(self, more):
        """Lose all but the journal's safe signs, so many of those behind them, and the houses."""
        self.known()
        self.journal.fall(more)
        self.memory = None

    def rise(self, turn):
        """Come up by the journal's rows, and tell the numbers under way."""
        if self.memory is not None:
            raise Up("the door is up")
        up = risen(self.journal.rows())
        if turn < up[4]:
            raise Late("the turn is below that of the rows")
        self.memory = Memory(self.life, turn, up)
        return sorted(self.memory.runs)

    def fold(self):
        """Make the journal anew, of its rows folded."""
        memory = self.known()
        rows = self.journal.rows()
        if self.journal.safe() < len(rows):
            raise Unsafe("not all rows are safe")
        self.journal = Journal()
        for row in folded(rows, self.life, memory.turn, sorted(memory.runs)):
            self.journal.write(row)
        self.journal.force()

    def called(self):
        """The door's name."""
        return self.name

    def rows(self):
        """The journal's rows."""
        return self.journal.rows()

    def now(self):
        """The door's turn."""
        return self.known().turn

    def book_rows(self):
        """The book's rows."""
        return self.known().book.rows()

    def amount(self, name):
        """The amount of a name in the book."""
        return self.known().book.amount(name)

    def kept(self):
        """What is kept at the door's turn."""
        memory = self.known()
        return memory.standing.kept(memory.turn)

    def under(self):
        """The tuples (number, asker, key, deed, stage) of what is under way, by numbers."""
        runs = self.known().runs
        return [runs[number].as_tuple() for number in sorted(runs)]

    def house_of(self, name):
        """The house of this name; NoHouse where the door has none."""
        if name not in self.houses:
            raise NoHouse(name)
        return self.houses[name]

    def known(self):
        """What the door knows; Down where it is down."""
        if self.memory is None:
            raise Down("the door is down")
        return self.memory


def told_again(seen, deed):
    """What an ask is told that comes where a deed is under way, or an answer is kept."""
    if seen[2] != deed:
        return ("other",)
    if seen[0] == "busy":
        return ("busy", seen[1])
    return ("kept", seen[3])
