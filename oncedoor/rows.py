"""Rows: what a journal holds, and their lines."""

from oncedoor.answers import answer_of, is_answer, is_some_answer, word_of
from oncedoor.deeds import is_deed, read_deed
from oncedoor.errors import NoDeed, NoRow
from oncedoor.words import is_key, is_name, is_whole, number_of, shown_parts

# The kinds of the parts behind each row's word.
PARTS = {
    "next": ("next", "turn"),
    "has": ("name", "amount"),
    "kept": ("number", "turn", "name", "key", "deed", "answer"),
    "came": ("number", "turn", "name", "key", "deed"),
    "asked": ("number",),
    "done": ("number", "turn", "answer"),
}

# The least and the greatest of each kind of part that is a whole number.
BOUNDS = {
    "next": (1, 1000000),
    "number": (1, 999999),
    "turn": (0, 1000000000000),
    "amount": (1, 1000000000000),
}


def is_row(thing):
    """Whether anything is a row."""
    word = word_of(thing)
    if word not in PARTS or len(thing) != len(PARTS[word]) + 1:
        return False
    if not all([is_part(kind, part) for kind, part in zip(PARTS[word], thing[1:])]):
        return False
    return word != "kept" or is_answer(thing[5], thing[6])


def is_part(kind, thing):
    """Whether anything is a part of this kind."""
    if kind in BOUNDS:
        return is_whole(thing, BOUNDS[kind][0], BOUNDS[kind][1])
    if kind == "name":
        return is_name(thing)
    if kind == "key":
        return is_key(thing)
    if kind == "deed":
        return is_deed(thing)
    return is_some_answer(thing)


def shown_row(row):
    """A row's line, without its line end."""
    parts = list(row)
    if row[0] == "kept":
        parts.insert(6, "=")
    return shown_parts(parts)


def read_row(text):
    """The row that a line writes; NoRow where it writes none."""
    parts = line_parts(text)
    kinds = PARTS.get(parts[0], ())
    # Only where there are as many parts as kinds does each stand beside its own.
    if len(parts) != len(kinds) + 1:
        raise NoRow("the text is no row's line")
    read = [number_of(part) if kind in BOUNDS else part for kind, part in zip(kinds, parts[1:])]
    row = tuple(parts[:1] + read)
    if not is_row(row):
        raise NoRow("the text is no row's line")
    return row


def line_parts(text):
    """The parts of a line: words, and behind them what its last words write as deed and answer."""
    words = text.split(" ")
    if words[0] == "kept":
        sides = text.partition(" = ")
        words = sides[0].split(" ")
        return words[:5] + [deed_of(words[5:]), answer_of(sides[2].split(" "))]
    if words[0] == "came":
        return words[:5] + [deed_of(words[5:])]
    if words[0] == "done":
        return words[:3] + [answer_of(words[3:])]
    return words


def deed_of(words):
    """The deed that words write, or None."""
    try:
        return read_deed(" ".join(words))
    except NoDeed:
        return None
