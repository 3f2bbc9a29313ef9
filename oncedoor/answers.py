"""Answers: what a deed is answered early or late, and what it changes by its answer."""

from oncedoor.deeds import asks_of, done_changes
from oncedoor.words import MOST, is_name, is_whole, number_of


def early(book, deed):
    """The answer that is known by the book alone, or None."""
    for name, by in done_changes(deed):
        amount = book.amount(name)
        if by < 0 and amount + by < 0:
            return ("short", amount)
        if by > 0 and amount + by > MOST:
            return ("full", amount)
    if len(asks_of(deed)) > 0:
        return None
    return done_answer(book, deed)


def late(book, deed, heard):
    """The answer of a deed of whose asks just the first ones, as many as heard tells, were answered yes."""
    asks = asks_of(deed)
    if heard < len(asks):
        return ("no", asks[heard][0])
    if deed[0] == "pass":
        return ("ok",)
    return done_answer(book, deed)


def done_answer(book, deed):
    """The answer with the amounts here as they are behind a deed that is done."""
    return tuple(["is"] + [book.amount(name) + by for name, by in done_changes(deed)])


def changes_of(deed, answer):
    """The pairs (name, by) that a deed changes here by its answer."""
    if answer[0] != "is":
        return ()
    return done_changes(deed)


def is_answer(deed, thing):
    """Whether anything is one of a deed's answers."""
    word = word_of(thing)
    if word == "no":
        return is_no(thing) and thing[1] in [house for house, there in asks_of(deed)]
    if word == "ok":
        return deed[0] == "pass" and len(thing) == 1
    bounds = bounds_of(deed)
    return word in bounds and are_within(thing[1:], bounds[word])


def is_some_answer(thing):
    """Whether anything is an answer that some deed can have."""
    if word_of(thing) == "no":
        return is_no(thing)
    # The least amount bounds "is" the least, and the greatest "short" and "full".
    widest = (
        ("add", "a", 1), ("take", "a", 1), ("move", "a", "b", 1), ("move", "a", "b", MOST), ("pass", "a", "b", "c", 1),
    )
    return any([is_answer(deed, thing) for deed in widest])


def answer_of(words):
    """The answer that words write; where they write none, a tuple that is no answer."""
    if words[:1] == ["no"]:
        return tuple(words)
    return tuple(words[:1] + [number_of(word) for word in words[1:]])


def word_of(thing):
    """The text that stands first in anything, or None where it is no tuple that begins with one."""
    if not isinstance(thing, tuple) or len(thing) == 0 or not isinstance(thing[0], str):
        return None
    return thing[0]


def is_no(answer):
    """Whether a tuple that begins with the word no has just a name behind it."""
    return len(answer) == 2 and is_name(answer[1])


def bounds_of(deed):
    """The least and greatest of each number behind those words of a deed's answers that have numbers."""
    n = deed[-1]
    left = (0, MOST - n)
    come = (n, MOST)
    short = (0, n - 1)
    full = (MOST - n + 1, MOST)
    if deed[0] == "pass":
        return {}
    if deed[0] == "move":
        return {"is": (left, come), "short": (short,), "full": (full,)}
    if deed[0] in ("take", "send"):
        return {"is": (left,), "short": (short,)}
    return {"is": (come,), "full": (full,)}


def are_within(things, bounds):
    """Whether there are as many things as bounds, each a whole number within its own."""
    if len(things) != len(bounds):
        return False
    return all([is_whole(thing, least_most[0], least_most[1]) for thing, least_most in zip(things, bounds)])
