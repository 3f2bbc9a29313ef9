"""Deeds: their form, their texts, the names they touch and what they ask of houses."""

from oncedoor.errors import NoDeed
from oncedoor.words import MOST, is_name, is_whole, number_of, shown_parts

# How many names, those of houses too, stand between a deed's word and its amount.
NAME_COUNTS = {"add": 1, "take": 1, "move": 2, "send": 2, "fetch": 2, "pass": 3}

# The words whose first two names must be unlike.
UNLIKE_WORDS = ("move", "pass")


def is_deed(thing):
    """Whether anything is a deed."""
    if not isinstance(thing, tuple) or len(thing) < 3:
        return False
    return fits_word(thing[0], thing[1:-1]) and is_whole(thing[-1], 1, MOST)


def fits_word(word, names):
    """Whether the names are such as a deed of this word has; both may be anything."""
    # The kind is asked first: a thing that can't be a dict's key may stand here.
    if not isinstance(word, str) or word not in NAME_COUNTS:
        return False
    if len(names) != NAME_COUNTS[word] or not all([is_name(name) for name in names]):
        return False
    return word not in UNLIKE_WORDS or names[0] != names[1]


def shown_deed(deed):
    """A deed's text."""
    return shown_parts(deed)


def read_deed(text):
    """The deed that a text writes; NoDeed where it writes none."""
    parts = text.split(" ")
    deed = tuple(parts[:-1] + [number_of(parts[-1])])
    if not is_deed(deed):
        raise NoDeed("the text is no deed's")
    return deed


def names_of(deed):
    """The names of this house that a deed touches, in the order of texts."""
    if deed[0] == "pass":
        return ()
    if deed[0] == "move":
        return tuple(sorted(deed[1:3]))
    return (deed[-2],)


def asks_of(deed):
    """The pairs (house, deed there) that a deed asks for, in their order."""
    add = ("add", deed[-2], deed[-1])
    take = ("take", deed[-2], deed[-1])
    if deed[0] == "send":
        return ((deed[1], add),)
    if deed[0] == "fetch":
        return ((deed[1], take),)
    if deed[0] == "pass":
        return ((deed[1], take), (deed[2], add))
    return ()


def done_changes(deed):
    """The pairs (name, by) that a deed changes in the house where it is done."""
    if deed[0] == "pass":
        return ()
    if deed[0] == "move":
        return ((deed[1], -deed[-1]), (deed[2], deed[-1]))
    if deed[0] in ("take", "send"):
        return ((deed[-2], -deed[-1]),)
    return ((deed[-2], deed[-1]),)
