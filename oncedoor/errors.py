"""The refusals: one class each, all of them straight under DoorError."""


class DoorError(ValueError):
    """Any refusal."""


class NoDeed(DoorError):
    """What should be a deed, or a deed's text, is none."""


class NoKey(DoorError):
    """What should be a key, or an asker's name, is none."""


class NoName(DoorError):
    """What should be a door's name is none."""


class Other(DoorError):
    """Another deed was asked under a key before."""


class NoRow(DoorError):
    """A text is no row's line."""


class NoAsk(DoorError):
    """No deed is under way under this asker and key."""


class Late(DoorError):
    """A turn lies below the one that was reached."""


class Down(DoorError):
    """The door is down."""


class Up(DoorError):
    """The door is up."""


class Unsafe(DoorError):
    """Not all rows are safe."""


class NoNumber(DoorError):
    """No deed of this number is under way."""


class NoWay(DoorError):
    """A text tells no way to a house."""


class NoLine(DoorError):
    """A line is none that the desk answers."""


class NoChange(DoorError):
    """A change would bring the amount of this name out of its bounds."""

    def __init__(self, name):
        self.name = name


class NoJournal(DoorError):
    """The line of this number, from 0, is no row's."""

    def __init__(self, line):
        self.line = line


class Busy(DoorError):
    """The deed of this number is under way under the same asker and key."""

    def __init__(self, number):
        self.number = number


class NoHouse(DoorError):
    """The door has no house of this name."""

    def __init__(self, house):
        self.house = house


class NoRows(DoorError):
    """The rows up to the one of this number, from 0, aren't whole."""

    def __init__(self, row):
        self.row = row
