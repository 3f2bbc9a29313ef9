"""The desk: it answers lines of words by what its door tells."""

from oncedoor.errors import NoLine
from oncedoor.looks import first_wrong
from oncedoor.rows import deed_of
from oncedoor.words import is_name, number_of, shown_parts

# By a line's first word and how many words it has: the kinds of those behind the first.
FORMS = {
    ("come", 5): ("number", "word", "word", "word"),
    ("work", 2): ("number",),
    ("work", 3): ("number", "way"),
    ("force", 1): (),
    ("fall", 2): ("number",),
    ("fold", 1): (),
    ("rise", 2): ("number",),
    ("book", 1): (),
    ("house", 2): ("word",),
    ("under", 1): (),
    ("close", 3): ("word", "name"),
    ("reopen", 3): ("word", "name"),
    ("look", 1): (),
}

# More words than this are all the last one's, which is a deed.
MOST_WORDS = 5

# The first words of lines that tell a house.
LINES_OF_HOUSES = ("house", "close", "reopen")


class Desk:
    """Lines for a door."""

    def __init__(self, door):
        self.door = door

    def say(self, line):
        """The answer to a line; NoLine, or what the door refuses it with."""
        words = line.split(" ")
        check_line(words)
        if words[0] == "come":
            return shown_parts(self.door.come(number_of(words[1]), words[2], words[3], deed_of(words[4:])))
        if words[0] == "work":
            way = words[2] if len(words) > 2 else "through"
            return shown_parts(self.door.work(number_of(words[1]), way))
        if words[0] in LINES_OF_HOUSES:
            return self.say_of_house(words)
        return self.say_of_door(words)

    def say_of_house(self, words):
        """The answer to a line that tells a house."""
        house = self.door.house_of(words[1])
        if words[0] == "house":
            return listed(house.rows(), ", ")
        if words[0] == "close":
            house.close(words[2])
        else:
            house.reopen(words[2])
        return "ok"

    def say_of_door(self, words):
        """The answer to a line that tells of the door as a whole."""
        if words[0] == "force":
            return listed(self.door.force(), "; ")
        if words[0] == "rise":
            return listed([(number,) for number in self.door.rise(number_of(words[1]))], " ")
        if words[0] == "book":
            return listed(self.door.book_rows(), ", ")
        if words[0] == "under":
            return listed([entry[:3] + entry[4:] for entry in self.door.under()], "; ")
        if words[0] == "look":
            wrong = first_wrong(self.door.rows())
            return "right" if wrong is None else f"wrong {wrong}"
        if words[0] == "fall":
            self.door.fall(number_of(words[1]))
        else:
            self.door.fold()
        return "ok"


def check_line(words):
    """NoLine where words are none of the lines that are answered."""
    form = (words[0], min(len(words), MOST_WORDS))
    if form not in FORMS or not all([is_word(kind, word) for kind, word in zip(FORMS[form], words[1:])]):
        raise NoLine("this is no line that is answered here")


def is_word(kind, word):
    """Whether a word is of this kind."""
    if kind == "number":
        return number_of(word) is not None
    if kind == "way":
        return word in ("lost", "unheard")
    return kind == "word" or is_name(word)


def listed(entries, mark):
    """Tuples shown with a mark between them; a dash where there is none."""
    if len(entries) == 0:
        return "-"
    return mark.join([shown_parts(entry) for entry in entries])
