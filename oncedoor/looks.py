"""Looks: whether rows are right by the book, apart by a life, and as the houses are."""

from oncedoor.answers import changes_of, early, late
from oncedoor.deeds import asks_of
from oncedoor.errors import NoRows
from oncedoor.keys import is_alive
from oncedoor.places import key_of
from oncedoor.risings import by_numbers, first_book, first_odd


def first_wrong(rows):
    """The place of the first done row whose answer doesn't come of the book, or None; NoRows of rows not whole."""
    odd = first_odd(rows)
    if odd is not None:
        raise NoRows(odd)
    came = by_numbers(rows, "came")
    book = first_book(rows)
    for place, row in enumerate(rows):
        if row[0] == "done":
            deed = came[row[1]][5]
            if row[3] not in right_answers(book, deed):
                return place
            book.change(changes_of(deed, row[3]))
    return None


def right_answers(book, deed):
    """The answers that can come of a book: the early one, else the late ones."""
    known = early(book, deed)
    if known is not None:
        return [known]
    return [late(book, deed, heard) for heard in range(len(asks_of(deed)) + 1)]


def too_near(rows, life):
    """The places of the first two kept or done rows of one asker and key that are too near by a life, or None."""
    came = by_numbers(rows, "came")
    places = {}
    for place, row in enumerate(rows):
        if row[0] in ("kept", "done"):
            pair = row[3:5] if row[0] == "kept" else came[row[1]][3:5]
            ahead = places.setdefault(pair, [])
            near = [other for other in ahead if is_alive(rows[other][2], life, row[2])]
            if len(near) > 0:
                return (near[-1], place)
            ahead.append(place)
    return None


def first_unlike(name, rows, houses):
    """The first (number, place) at which a house isn't as the rows of the door of this name tell, or None."""
    entries = entries_of(houses)
    asked = by_numbers(rows, "asked")
    done = by_numbers(rows, "done")
    came = by_numbers(rows, "came")
    for number in came:
        asks = asks_of(came[number][5])
        for place, ask in enumerate(asks):
            due = due_words(asks, place, number in asked, done.get(number))
            entry = entries.get((ask[0], key_of(name, number, place)), (ask[1], None))
            if entry[0] != ask[1] or entry[1] not in due:
                return (number, place)
    return None


def entries_of(houses):
    """By pairs (house, key): the pairs (deed, word) that the houses keep."""
    told = {}
    for name, house in houses:
        for key, deed, word in house.kept():
            told[(name, key)] = (deed, word)
    return told


def due_words(asks, place, is_asked, done):
    """The words, None for none, that may stand at a place of asks; done is the done row, or None."""
    if not is_asked:
        return (None,)
    if done is None:
        return (None, "yes", "no", "undone")
    answer = done[3]
    if answer[0] != "no":
        return ("yes",)
    refused = [house for house, there in asks].index(answer[1])
    if place < refused:
        return ("undone",)
    return ("no",) if place == refused else (None,)
