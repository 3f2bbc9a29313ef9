"""Names, keys and numbers: how they are written and told from other things."""

LETTERS = "abcdefghijklmnopqrstuvwxyz"
FIGURES = "0123456789"

LONGEST_NAME = 8
LONGEST_KEY = 12
LONGEST_NUMBER = 13

# 10 ** 12, the bound of amounts.
MOST = 1000000000000


def is_name(thing):
    """Whether anything is a name."""
    return is_made_of(thing, LETTERS, LONGEST_NAME)


def is_key(thing):
    """Whether anything is a key."""
    return is_made_of(thing, LETTERS + FIGURES, LONGEST_KEY)


def number_of(text):
    """The whole number that a text writes, or None."""
    if not is_made_of(text, FIGURES, LONGEST_NUMBER):
        return None
    # Each number has one text alone, so that texts are the same where numbers are.
    if text[0] == "0" and text != "0":
        return None
    return int(text)


def shown_parts(parts):
    """The text of texts, numbers and tuples of these, parted by single blanks."""
    return " ".join([shown_parts(part) if isinstance(part, tuple) else str(part) for part in parts])


def is_whole(thing, least, most):
    """Whether anything is a whole number from least to most."""
    # Python counts truths among its whole numbers; here they are none.
    if not isinstance(thing, int) or isinstance(thing, bool):
        return False
    return least <= thing <= most


def is_made_of(thing, signs, longest):
    """Whether anything is a text of 1 to longest of these signs."""
    if not isinstance(thing, str) or not 1 <= len(thing) <= longest:
        return False
    return all([sign in signs for sign in thing])
