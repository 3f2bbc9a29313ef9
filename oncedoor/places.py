"""Places: under which key a deed asks a house."""

# The last sign of the key, by the place of the ask.
ENDS = ("a", "b")


def key_of(name, number, place):
    """The key of a place, 0 or 1, of the deed of this number at the door of this name."""
    return name + str(number) + ENDS[place]
