"""Risings: whether rows are whole, and what whole rows come up to."""

from oncedoor.answers import changes_of, is_answer
from oncedoor.books import Book
from oncedoor.deeds import asks_of

# No row stands behind one of a greater rank.
RANKS = {"next": 0, "has": 1, "kept": 2, "came": 3, "asked": 3, "done": 3}

# The words of answers that are known before any house is asked, though the deed has asks.
UNASKED_WORDS = ("short", "full")


class Walk:
    """What is to be known of whole rows to tell whether one more may stand behind them."""

    def __init__(self):
        # By words: the last row that begins with it.
        self.last_rows = {}
        self.last_rank = 0
        self.last_turn = 0
        self.kept_numbers = {}
        self.came_deeds = {}
        self.asked_numbers = {}
        self.done_numbers = {}

    def fits(self, row):
        """Whether the rows are whole with this one behind them."""
        word = row[0]
        if word == "next":
            return len(self.last_rows) == 0
        if RANKS[word] < self.last_rank:
            return False
        if word == "has":
            return "next" in self.last_rows and self.rises(row)
        if word == "kept":
            return "next" in self.last_rows and self.fits_kept(row)
        if word == "came":
            return self.rises(row) and row[1] not in self.kept_numbers and row[2] >= self.last_turn
        if row[1] not in self.came_deeds or row[1] in self.done_numbers:
            return False
        if word == "asked":
            return row[1] not in self.asked_numbers and len(asks_of(self.came_deeds[row[1]])) > 0
        return row[2] >= self.last_turn and self.fits_answer(row)

    def rises(self, row):
        """Whether a row's name or number is above that of the last row of its word."""
        return row[0] not in self.last_rows or self.last_rows[row[0]][1] < row[1]

    def fits_kept(self, row):
        """Whether a kept row fits the next row and the kept rows ahead."""
        ahead = self.last_rows["next"]
        return self.rises(row) and row[1] < ahead[1] and row[2] <= ahead[2]

    def fits_answer(self, row):
        """Whether a done row's answer is one of its deed's, and its houses were asked just where it says so."""
        deed = self.came_deeds[row[1]]
        if not is_answer(deed, row[3]):
            return False
        was_asked = row[1] in self.asked_numbers
        return len(asks_of(deed)) == 0 or was_asked != (row[3][0] in UNASKED_WORDS)

    def step(self, row):
        """Put a row that fits behind the others."""
        word = row[0]
        self.last_rows[word] = row
        self.last_rank = RANKS[word]
        if word in ("next", "came", "done"):
            self.last_turn = row[2]
        if word == "kept":
            self.kept_numbers[row[1]] = True
        if word == "came":
            self.came_deeds[row[1]] = row[5]
        if word == "asked":
            self.asked_numbers[row[1]] = True
        if word == "done":
            self.done_numbers[row[1]] = True


def first_odd(rows):
    """The place, from 0, of the first row up to which the rows aren't whole, or None."""
    walk = Walk()
    for place, row in enumerate(rows):
        if not walk.fits(row):
            return place
        walk.step(row)
    return None


def risen(rows):
    """What whole rows come up to: the tuple (book, kept, open ones, next, turn)."""
    done = by_numbers(rows, "done")
    asked = by_numbers(rows, "asked")
    came = by_numbers(rows, "came")
    still = [came[number] for number in came if number in asked and number not in done]
    return (
        risen_book(rows, came).rows(),
        risen_kept(rows, came),
        [row[1:2] + row[3:] for row in still],
        max([1] + [row[1] for row in rows if row[0] == "next"] + [number + 1 for number in came]),
        max([0] + [row[2] for row in rows if row[0] in ("next", "came", "done")]),
    )


def by_numbers(rows, word):
    """The rows that begin with this word, each of which has a number of its own, by their numbers."""
    told = {}
    for row in rows:
        if row[0] == word:
            told[row[1]] = row
    return told


def first_book(rows):
    """The book that has what the has rows tell."""
    return Book([row[1:] for row in rows if row[0] == "has"])


def risen_book(rows, came):
    """The book behind all done rows; NoChange where it can't be changed so."""
    book = first_book(rows)
    for row in rows:
        if row[0] == "done":
            book.change(changes_of(came[row[1]][5], row[3]))
    return book


def risen_kept(rows, came):
    """The tuples (number, turn, asker, key, deed, answer) of kept rows and done rows, in their order."""
    kept = [row[1:] for row in rows if row[0] == "kept"]
    return kept + [row[1:3] + came[row[1]][3:] + row[3:] for row in rows if row[0] == "done"]
