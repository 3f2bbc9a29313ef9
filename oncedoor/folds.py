"""Folds: fewer rows that come up to the same."""

from oncedoor.keys import is_alive
from oncedoor.risings import by_numbers, risen


def folded(rows, life, turn, numbers):
    """Whole rows folded by a life, a turn, and the numbers of those came rows that stay."""
    up = risen(rows)
    has = [("has",) + pair for pair in up[0]]
    came = came_again(rows, turn, numbers)
    busy = [row[3:5] for row in came if row[0] == "came"]
    kept = [("kept",) + entry for entry in still_kept(up[1], life, turn) if entry[2:4] not in busy]
    return [("next", up[3], turn)] + has + kept + came


def still_kept(kept, life, turn):
    """The last one of each asker and key, where it is alive at a turn, by numbers."""
    last = {}
    for entry in kept:
        last[entry[2:4]] = entry
    return sorted([entry for entry in last.values() if is_alive(entry[1], life, turn)])


def came_again(rows, turn, numbers):
    """The came rows of these numbers as at a turn, each with its asked row, if it has one, behind it."""
    came = by_numbers(rows, "came")
    asked = by_numbers(rows, "asked")
    told = []
    for number in numbers:
        told.append(("came", number, turn) + came[number][3:])
        if number in asked:
            told.append(asked[number])
    return told
